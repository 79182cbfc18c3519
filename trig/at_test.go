package trig_test

import (
	"math/rand"
	"testing"

	"pelorus/api"
	"pelorus/dy"
	"pelorus/num"
	"pelorus/pi"
	"pelorus/sample"
	"pelorus/trig"
)

// TestBounds holds that pi's are those by which the tests tell the chapter's words.
func TestBounds(t *testing.T) {
	lo, hi := pi.Bounds()
	if numberOf(t, lo).Cmp(pl) != 0 || numberOf(t, hi).Cmp(ph) != 0 {
		t.Errorf("%v, %v", lo, hi)
	}
}

// next is the interval from m times 2^e to the next number farther from nought, or its opposite.
func next(below bool, m uint64, e int) api.Iv {
	if below {
		return span(fin(true, m+1, e), fin(true, m, e))
	}
	return span(pos(m, e), pos(m+1, e))
}

// TestWrittenOut has sines and cosines as they were worked out by another program, with 640 bits.
func TestWrittenOut(t *testing.T) { // P12.2, P12.4
	crest := span(pos(full, -64), num.Of(1))
	trough := span(num.Of(-1), fin(true, full, -64))
	for _, c := range []struct {
		name     string
		n        api.Num
		sin, cos api.Iv
	}{
		{"1", num.Of(1), next(false, 0xd76aa47848677020, -64), next(false, 0x8a51407da8345c91, -64)},
		{"-1", num.Of(-1), next(true, 0xd76aa47848677020, -64), next(false, 0x8a51407da8345c91, -64)},
		{"2", num.Of(2), next(false, 0xe8c7b7568da22efd, -64), next(true, 0xd51132ba9b902521, -65)},
		{"-2", num.Of(-2), next(true, 0xe8c7b7568da22efd, -64), next(true, 0xd51132ba9b902521, -65)},
		{"3", num.Of(3), next(false, 0x9081c36db6aada78, -66), next(true, 0xfd7025f42f2e9307, -64)},
		{"4", num.Of(4), next(true, 0xc1bdceeee0f57386, -64), next(true, 0xa7553036d9260623, -64)},
		{"5", num.Of(5), next(true, 0xf57c0faf04c99913, -64), next(false, 0x913c2b835a56ca9f, -65)},
		{"10", num.Of(10), next(true, 0x8b44f7af9a7a92ce, -64), next(true, 0xd6cd64486358f904, -64)},
		{"22", num.Of(22), next(true, 0x910514fb75cf9eaf, -70), next(true, 0xfffd6ec6a566d00f, -64)},
		{"355", num.Of(355), next(true, 0xfcde8183e8ef14ed, -79), next(true, 0xfffffffe0c725f3c, -64)},
		{"10^9", num.Of(1e9), next(false, 0x8bbc65741e34d871, -64), next(false, 0xd67fc639b2119c0e, -64)},
		{"-10^9", num.Of(-1e9), next(true, 0x8bbc65741e34d871, -64), next(false, 0xd67fc639b2119c0e, -64)},
		{"2^30 less 1", num.Of(1<<30 - 1), next(true, 0xfedb52ae8560ac2b, -64), next(true, 0xc15625a9e6f356a8, -67)},
		{"the greatest below 2^30", pos(full, -34), next(true, 0x9e091a9bc6bee3a3, -64), next(false, 0xc965a3546887d628, -64)},
		{"a half", power(-1), next(false, 0xf57743a2582f7f43, -65), next(false, 0xe0a94032dbea7ced, -64)},
		{"2^-30", power(-30), next(false, 0xfffffffffffffffd, -94), next(false, 0xfffffffffffffff8, -64)},
		{"next below pi", pos(0xc90fdaa22168c234, -62), next(false, 0xc4c6628b80dc1cd1, -126), trough},
		{"next above pi", pos(0xc90fdaa22168c235, -62), next(true, 0xece675d1fc8f8cbb, -128), trough},
		{"next below half of pi", pos(0xc90fdaa22168c234, -63), crest, next(false, 0xc4c6628b80dc1cd1, -127)},
		{"next above half of pi", pos(0xc90fdaa22168c235, -63), crest, next(true, 0xece675d1fc8f8cbb, -129)},
		// So near nought, what the words leave to both sides is to be seen: 200, and what the angle lies between.
		{"nought", api.Num{}, span(fin(true, 201<<56, -248), pos(201<<56, -248)), crest},
		{"2^-192", power(-192), span(fin(true, 200<<56, -248), pos(202<<56, -248)), crest},
		{"-2^-192", minus(power(-192)), span(fin(true, 202<<56, -248), pos(200<<56, -248)), crest},
		{"2^-193", power(-193), span(fin(true, 201<<56, -248), pos(201<<56, -248)), crest},
		{"-2^-193", minus(power(-193)), span(fin(true, 202<<56, -248), pos(200<<56, -248)), crest},
		{"the Tiny", tiny(false), span(fin(true, 201<<56, -248), pos(201<<56, -248)), crest},
		{"the Tiny's opposite", tiny(true), span(fin(true, 202<<56, -248), pos(200<<56, -248)), crest},
	} {
		expect(t, "Sin of "+c.name, trig.Sin(c.n), c.sin)
		expect(t, "Cos of "+c.name, trig.Cos(c.n), c.cos)
		checkAt(t, c.n)
	}
}

// nearest are the numbers around k times a half of pi: the nearest on both sides, and two more beside each.
func nearest(k int64) []api.Num {
	exact := dy.Make(sample.Whole(mul(whole(k), manyBits)), -manyPlaces-1)
	lo, hi := num.Round(exact, false), num.Round(exact, true)
	below, above := num.Next(lo, false), num.Next(hi, true)
	return []api.Num{num.Next(below, false), below, lo, hi, above, num.Next(above, true)}
}

// quarters are the multiples of a half of pi that the tests go to: the greatest ones are the last ahead of 2^30.
func quarters() []int64 {
	var out []int64
	for k := int64(1); k <= 24; k++ {
		out = append(out, k, -k)
	}
	for _, k := range []int64{99, 100, 101, 102, 226, 1e6, 1e6 + 1, 341782636, 341782637, 683565273, 683565274, 683565275} {
		out = append(out, k, -k)
	}
	return out
}

// numbers are those of all kinds that are near nought.
func numbers() []api.Num {
	out := []api.Num{{}, tiny(false), tiny(true)}
	for n := 1; n <= 40; n++ {
		out = append(out, num.Of(n), num.Of(-n))
	}
	for _, n := range []int{355, 710, 1e6, 1e9, 1<<30 - 2, 1<<30 - 1} {
		out = append(out, num.Of(n), num.Of(-n))
	}
	for _, k := range quarters() {
		out = append(out, nearest(k)...)
	}
	for _, e := range []int{-700, -400, -257, -256, -255, -254, -192, -191, -160, -128, -100, -64, -63, -62, -61, -40, -35, -34} {
		for _, m := range sample.Words() {
			out = append(out, pos(m, e), fin(true, m, e))
		}
	}
	return out
}

func TestAtNumbers(t *testing.T) { // P12.2
	for _, n := range numbers() {
		checkAt(t, n)
	}
	for _, n := range sample.Row() {
		checkAt(t, n)
	}
	r := rand.New(rand.NewSource(2))
	for range 3000 {
		checkAt(t, fin(r.Intn(2) == 0, sample.Word(r), -34-r.Intn(230)))
	}
}

func TestAtWhatIsTooFar(t *testing.T) { // P12.2
	for _, n := range []api.Num{
		power(30), pos(high+1, -33), pos(full, -33), num.Of(1<<30 + 1), power(31), power(62), power(192), pos(full-1, 1<<20),
		huge(false), inf(false),
	} {
		for _, w := range waves() {
			expect(t, w.name+" of one too far", w.at(n), unit)
			expect(t, w.name+" of one too far below nought", w.at(minus(n)), unit)
		}
	}
	// The neighbours of 2^30 and of its opposite that are nearer to nought.
	for _, n := range []api.Num{num.Next(power(30), false), num.Next(minus(power(30)), true)} {
		checkAt(t, n)
		for _, w := range waves() {
			if w.at(n) == unit {
				t.Errorf("%s of %v: too far", w.name, n)
			}
		}
	}
}

// TestAtWhatMayNotBe has numbers that are taken for nought, also those that look infinite or far away.
func TestAtWhatMayNotBe(t *testing.T) { // P12.2, the Words of chapter 5
	for _, bad := range sample.MayNot() {
		for _, w := range waves() {
			expect(t, w.name+" of one that may not be", w.at(bad), w.at(api.Num{}))
		}
	}
}

// TestCutAtOne has numbers at which the words' upper end is beyond 1, ahead of the cut: those so near nought that their
// cosine is. No number is so near to any other extreme place, but there the ends are 1 and -1, too.
func TestCutAtOne(t *testing.T) { // the chapter's Words, P12.2
	for _, k := range []int{-96, -97, -100, -128, -191, -192, -193, -254, -255, -256, -1000} {
		for _, n := range []api.Num{{}, power(k), minus(power(k)), pos(full, k-64), tiny(false), tiny(true)} {
			f, _ := fixed(n)
			if _, hi := uncut(waves()[1].between(f)); hi.Cmp(one) <= 0 {
				t.Errorf("of %v: up to %x", n, hi)
			}
			expect(t, "Cos near nought", trig.Cos(n), span(pos(full, -64), num.Of(1)))
		}
	}
	for _, k := range []int64{1, -3, 5, 101} {
		for _, n := range nearest(k) {
			expect(t, "Sin at its crest", trig.Sin(n), span(pos(full, -64), num.Of(1)))
			expect(t, "Sin at its trough", trig.Sin(minus(n)), span(num.Of(-1), fin(true, full, -64)))
		}
	}
}
