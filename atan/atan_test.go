package atan_test

import (
	"math"
	"math/rand"
	"testing"

	"pelorus/api"
	"pelorus/atan"
	"pelorus/iv"
	"pelorus/ivop"
	"pelorus/num"
	"pelorus/pi"
	"pelorus/quot"
	"pelorus/sample"
)

// TestBounds holds that pi's are those by which the tests tell the chapter's words.
func TestBounds(t *testing.T) {
	lo, hi := pi.Bounds()
	if numberOf(t, lo).Cmp(pl) != 0 || numberOf(t, hi).Cmp(ph) != 0 {
		t.Errorf("%v, %v", lo, hi)
	}
	expect(t, "Pi", pi.Pi(), aWhole)
	half := pi.Part(sample.Whole(by(pl, whole(2))), sample.Whole(add(by(ph, whole(2)), whole(1))))
	expect(t, "Half", half, aHalf)
}

// TestExamples has those of the chapter.
func TestExamples(t *testing.T) { // the chapter's Examples
	quarter := ivop.Div(pi.Pi(), points(4, 4))
	if got := atan.Atan(num.Of(1)); iv.Meet(got, quarter).Empty {
		t.Errorf("Atan(1): %v", got)
	}
	turn := pi.Pi()
	got, is := atan.Angle(num.Of(0), num.Of(-1))
	if !is || !iv.Within(turn, got) || got.Lo == turn.Lo || got.Hi == turn.Hi || less(power(-60), iv.Width(got)) {
		t.Errorf("Angle(0, -1): %v, %v", got, is)
	}
}

// around is the interval from m times 2^e to the number that is steps farther, all with 64 bits.
func around(m uint64, e int, steps uint64) api.Iv { return span(pos(m, e), pos(m+steps, e)) }

// TestAtanWrittenOut has angles as they were worked out by another program, with 700 bits.
func TestAtanWrittenOut(t *testing.T) { // P13.2, P13.5
	for _, c := range []struct {
		name string
		n    api.Num
		want api.Iv
	}{
		{"1", num.Of(1), around(0xc90fdaa22168c234, -64, 1)},
		{"2", num.Of(2), around(0x8db70c975df22362, -63, 2)},
		{"3", num.Of(3), around(0x9fe0bb5bd42affea, -63, 3)},
		{"4", num.Of(4), around(0xa9b464a8f4e7e4d1, -63, 2)},
		{"5", num.Of(5), around(0xafcb98a92a42b6ce, -63, 2)},
		{"10", num.Of(10), around(0xbc4de960b0029c16, -63, 2)},
		{"239", num.Of(239), around(0xc886c00f5584f5b6, -63, 2)},
		{"1000", num.Of(1000), around(0xc8ef160732c5e609, -63, 2)},
		{"10^9", num.Of(1e9), around(0xc90fda9ffba7452f, -63, 2)},
		{"a half", power(-1), around(0xed63382b0dda7b45, -65, 1)},
		{"next below a half", pos(full, -65), around(0xed63382b0dda7b44, -65, 1)},
		{"next above a half", pos(high+1, -64), around(0xed63382b0dda7b47, -65, 1)},
		{"next below 1", pos(full, -64), around(0xc90fdaa22168c234, -64, 1)},
		{"next above 1", pos(high+1, -63), around(0xc90fdaa22168c233, -64, 4)},
		{"a quarter", power(-2), around(0xfadbafc96406eb15, -66, 1)},
		{"three quarters", pos(3<<62, -64), around(0xa4bc7d1934f70924, -64, 1)},
		{"three halves", pos(3<<62, -63), around(0xfb985e940fb4d8fe, -64, 4)},
		{"next below a third", pos(0xaaaaaaaaaaaaaaaa, -65), around(0xa4bc7d1934f70923, -65, 1)},
		{"next above a third", pos(0xaaaaaaaaaaaaaaab, -65), around(0xa4bc7d1934f70924, -65, 1)},
		{"below 10/3", pos(0xd555555555555555, -62), around(0xa3c165d5e40ab66d, -63, 2)},
		{"below half of pi", pos(0xc90fdaa22168c234, -63), around(0x807f4c3f6817f9bb, -63, 2)},
		{"2^-30", power(-30), around(0xfffffffffffffffa, -94, 1)},
		{"2^-100", power(-100), span(pos(full, -164), pos(high+1, -163))},
		{"2^63", power(63), around(0xc90fdaa22168c232, -63, 3)},
		{"2^64 less 1", pos(full, 0), around(0xc90fdaa22168c233, -63, 2)},
		{"2^100", power(100), around(0xc90fdaa22168c233, -63, 2)},
		{"2^200", power(200), around(0xc90fdaa22168c233, -63, 3)},
		{"2^2000", power(2000), around(0xc90fdaa22168c233, -63, 3)},
		{"the Huge", huge(false), around(0xc90fdaa22168c233, -63, 3)},
		{"the infinite one", inf(false), around(0xc90fdaa22168c234, -63, 1)},
		// So near nought, what the words leave to both sides is to be seen: 400 last parts, and how the number is rounded.
		{"2^-128", power(-128), span(pos(full-399, -192), pos(high+200, -191))},
		{"2^-183", power(-183), span(pos(112<<57, -249), pos(114<<57, -246))},
		{"2^-184", power(-184), span(fin(true, 9<<60, -248), pos(41<<58, -246))},
		{"2^-192", power(-192), span(fin(true, 399<<55, -247), pos(401<<55, -247))},
		{"2^-193", power(-193), span(fin(true, 400<<55, -247), pos(400<<55, -247))},
		{"next below 2^-192", pos(full, -256), span(fin(true, 400<<55, -247), pos(400<<55, -247))},
		{"the Tiny", tiny(false), span(fin(true, 400<<55, -247), pos(400<<55, -247))},
	} {
		expect(t, "Atan of "+c.name, atan.Atan(c.n), c.want)
		expect(t, "Atan of the opposite of "+c.name, atan.Atan(minus(c.n)), opposite(c.want))
		checkAtan(t, c.n)
		checkAtan(t, minus(c.n))
	}
	expect(t, "Atan of nought", atan.Atan(api.Num{}), span(fin(true, 400<<55, -247), pos(400<<55, -247)))
}

// neighbours are a number, and the three next ones on both sides.
func neighbours(n api.Num) []api.Num {
	out := []api.Num{n}
	for _, up := range []bool{false, true} {
		at := n
		for range 3 {
			at = num.Next(at, up)
			out = append(out, at)
		}
	}
	return out
}

// tangents are finite numbers above nought, of all sizes: whole ones, shares, those around the edges of the words, and
// powers of two, by which 1 is a number of its own.
func tangents() []api.Num {
	out := []api.Num{tiny(false), huge(false), pos(full-1, maxE), pos(full, minE), power(maxE + 63), power(maxE), power(minE + 64)}
	for n := 1; n <= 40; n++ {
		out = append(out, num.Of(n), quot.Div(num.Of(n), num.Of(64), false), quot.Div(num.Of(n), num.Of(41), false), quot.Div(num.Of(n), num.Of(41), true))
	}
	for _, n := range []int{239, 1000, 1 << 30, 1<<30 + 1, 1e9, 1 << 62, math.MaxInt64} {
		out = append(out, num.Of(n), quot.Div(num.Of(1), num.Of(n), true))
	}
	for _, n := range []api.Num{power(-1), power(0), power(1), power(-192), power(-191), power(-183), power(64), power(-2), pos(3<<62, -64)} {
		out = append(out, neighbours(n)...)
	}
	for _, k := range []int{-400, -256, -193, -128, -64, -63, -10, 2, 3, 10, 62, 63, 65, 128, 192, 256, 1000} {
		out = append(out, power(k))
	}
	for _, e := range []int{-700, -400, -330, -256, -255, -254, -192, -191, -128, -100, -70, -66, -65, -64, -63, -62, -61, -60, -34, 0, 1, 64, 200} {
		for _, m := range sample.Words() {
			out = append(out, pos(m, e))
		}
	}
	return out
}

// numbers are nought, the tangents and their opposites.
func numbers() []api.Num {
	out := []api.Num{{}}
	for _, n := range tangents() {
		out = append(out, n, minus(n))
	}
	return out
}

func TestAtanOfNumbers(t *testing.T) { // P13.2
	for _, n := range numbers() {
		checkAtan(t, n)
	}
	for _, n := range sample.Row() {
		checkAtan(t, n)
	}
	r := rand.New(rand.NewSource(2))
	for range 1000 {
		checkAtan(t, sample.Num(r))
		checkAtan(t, fin(r.Intn(2) == 0, sample.Word(r), -64-r.Intn(3)))
		checkAtan(t, fin(r.Intn(2) == 0, sample.Word(r), -63+r.Intn(3)))
	}
}

// TestAtanOfTheInfinite has both infinite ones: a quarter turn to each side.
func TestAtanOfTheInfinite(t *testing.T) { // P13.2
	expect(t, "Atan of the infinite one", atan.Atan(inf(false)), aHalf)
	expect(t, "Atan of the one below nought", atan.Atan(inf(true)), opposite(aHalf))
}

// TestAtanOfWhatMayNotBe has numbers that are taken for nought, also those that look infinite, or below nought.
func TestAtanOfWhatMayNotBe(t *testing.T) { // P13.2, the Words of chapter 5
	want := span(fin(true, 400<<55, -247), pos(400<<55, -247))
	for _, bad := range sample.MayNot() {
		expect(t, "Atan of one that may not be", atan.Atan(bad), want)
	}
}

// TestAtanOfQuotients holds that above 1 the answer has what both sides of a quotient of 1 make, which no number has
// alone, where the quotient is not one.
func TestAtanOfQuotients(t *testing.T) { // P13.2
	for _, n := range tangents() {
		if !less(power(0), n) {
			continue
		}
		below, above := quot.Div(num.Of(1), n, false), quot.Div(num.Of(1), n, true)
		if isPower := n.M == high && n.E <= maxE-63; isPower != (below == above) && less(n, power(maxE)) {
			t.Errorf("1 by %v: %v, %v", n, below, above)
		}
		got := atan.Atan(n)
		for _, q := range []api.Num{below, above} {
			if want := ivop.Sub(aHalf, wantPart(q)); !iv.Within(want, got) {
				t.Errorf("Atan(%v): %v, without %v", n, got, want)
			}
		}
	}
}
