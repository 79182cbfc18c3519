package pi_test

import (
	"math/big"
	"math/rand"
	"testing"

	"pelorus/api"
	"pelorus/dy"
	"pelorus/iv"
	"pelorus/num"
	"pelorus/pi"
	"pelorus/quot"
	"pelorus/sample"
)

// part is Part of two numbers of the library's.
func part(lo, hi *big.Int) api.Iv { return pi.Part(wholeOf(lo), wholeOf(hi)) }

// points is the interval from one whole number to another one, which is not less.
func points(lo, hi int) api.Iv { return span(num.Of(lo), num.Of(hi)) }

// TestPartAtTheEdges has intervals written out.
func TestPartAtTheEdges(t *testing.T) { // P11.4
	nought, one, less := new(big.Int), bit(scale, 0), opposite(bit(scale, 0))
	last, first := big.NewInt(1), big.NewInt(-1)
	above, below := pos(high+1, -63), pos(full, -64) // 1's neighbours
	for _, c := range []struct {
		name   string
		lo, hi *big.Int
		want   api.Iv
	}{
		{"nought", nought, nought, api.Iv{}},
		{"from nought to 1", nought, one, points(0, 1)},
		{"from -1 to nought", less, nought, points(-1, 0)},
		{"from -1 to 1", less, one, points(-1, 1)},
		{"from 1 to 3", one, times(big.NewInt(3), scale), points(1, 3)},
		{"from -3 to -1", times(big.NewInt(-3), scale), less, points(-3, -1)},
		{"1 alone", one, one, points(1, 1)},
		{"-1 alone", less, less, points(-1, -1)},
		{"a half alone", bit(191, 0), bit(191, 0), span(power(-1), power(-1))},
		{"the last part alone", last, last, span(power(-192), power(-192))},
		{"its opposite alone", first, first, span(minus(power(-192)), minus(power(-192)))},
		{"both", first, last, span(minus(power(-192)), power(-192))},
		{"one above 1 alone", bit(scale, 1), bit(scale, 1), span(num.Of(1), above)},
		{"one below 1 alone", bit(scale, -1), bit(scale, -1), span(below, num.Of(1))},
		{"one below -1 alone", opposite(bit(scale, 1)), opposite(bit(scale, 1)), span(minus(above), num.Of(-1))},
		{"one above -1 alone", opposite(bit(scale, -1)), opposite(bit(scale, -1)), span(num.Of(-1), minus(below))},
		{"around 1", bit(scale, -1), bit(scale, 1), span(below, above)},
		{"within around 1", bit(scale, 1), bit(scale, 2), span(num.Of(1), above)},
		{"around -1", opposite(bit(scale, 1)), opposite(bit(scale, -1)), span(minus(above), minus(below))},
		{"a third", new(big.Int).Div(one, big.NewInt(3)), new(big.Int).Div(one, big.NewInt(3)), span(pos(0xaaaaaaaaaaaaaaaa, -65), pos(0xaaaaaaaaaaaaaaab, -65))},
		{"64 bits", bit(64, -1), bit(64, -1), span(pos(full, -192), pos(full, -192))},
		{"65 bits", bit(65, -1), bit(65, -1), span(pos(full, -191), power(-127))},
		{"many limbs", bit(3000, 0), bit(4000, 1), span(power(2808), pos(high+1, 3745))},
		{"many limbs on both sides", opposite(bit(4000, 1)), bit(3000, -1), span(minus(pos(high+1, 3745)), power(2808))},
		{"up to the Huge", nought, times(bit(64, -1), maxE+scale), span(api.Num{}, huge(false))},
		{"beyond the Huge", one, bit(maxE+64+scale, 0), span(num.Of(1), inf(false))},
		{"beyond the Huge alone", bit(maxE+64+scale, 0), bit(maxE+64+scale, 0), span(huge(false), inf(false))},
		{"beyond the Huge's opposite alone", opposite(bit(maxE+64+scale, 0)), opposite(bit(maxE+64+scale, 0)), span(inf(true), huge(true))},
		{"beyond both", opposite(bit(maxE+64+scale, 0)), bit(maxE+64+scale, 0), iv.All()},
		{"from 1 to nought", one, nought, none()},
		{"from nought to -1", nought, less, none()},
		{"from 1 to -1", one, less, none()},
		{"from 3 to 1", times(big.NewInt(3), scale), one, none()},
		{"from -1 to -3", less, times(big.NewInt(-3), scale), none()},
		{"from the last part to nought", last, nought, none()},
		{"from nought to the last part below", nought, first, none()},
		{"from one that is many limbs greater", bit(4000, 0), bit(3000, 0), none()},
		// The ends are rounded ahead of being held against each other, by the promise's words.
		{"in the wrong order, but nearer than any number", bit(scale, 1), one, points(1, 1)},
		{"in the wrong order, between two numbers", bit(scale, 2), bit(scale, 1), span(num.Of(1), above)},
	} {
		expectIv(t, "Part "+c.name, part(c.lo, c.hi), c.want)
		checkPart(t, c.lo, c.hi)
	}
}

// checkPart holds Part against its words, and its ends against num's rounding of the exact numbers.
func checkPart(t *testing.T, lo, hi *big.Int) {
	t.Helper()
	a, b := wholeOf(lo), wholeOf(hi)
	got, one := pi.Part(a, b), wholeOf(bit(scale, 0))
	words := iv.Make(quot.Ratio(a, one, false), quot.Ratio(b, one, true))
	ends := iv.Make(num.Round(dy.Make(a, -scale), false), num.Round(dy.Make(b, -scale), true))
	if got != words || got != ends {
		t.Fatalf("Part of %x and %x: %v, not %v, %v", lo, hi, got, words, ends)
	}
}

// fixed are fixed numbers of few limbs and of many, of both signs.
func fixed() []*big.Int {
	out := []*big.Int{{}}
	for _, k := range []int{0, 1, 5, 31, 32, 63, 64, 65, 127, 128, 129, 190, 191, 192, 193, 194, 195, 221, 222, 223, 256, 257, 1000} {
		for _, more := range []int64{-3, -1, 0, 1, 3} {
			n := bit(k, more)
			out = append(out, n, opposite(n))
		}
	}
	return out
}

func TestPartOfFixed(t *testing.T) { // P11.4
	for _, lo := range fixed() {
		for _, hi := range fixed() {
			checkPart(t, lo, hi)
		}
	}
	r := rand.New(rand.NewSource(4))
	some := func() *big.Int {
		out := new(big.Int).Rand(r, bit(1+r.Intn(500), 0))
		if r.Intn(2) == 0 {
			out.Neg(out)
		}
		return out
	}
	for range 2000 {
		lo := some()
		checkPart(t, lo, some())
		checkPart(t, lo, lo)
		checkPart(t, lo, new(big.Int).Add(lo, big.NewInt(r.Int63n(9)-4)))
	}
}

// TestPartOfFix holds that a number that is a multiple of the last part comes back alone.
func TestPartOfFix(t *testing.T) { // P11.1, P11.4
	for e := -192; e < -33; e++ {
		for _, m := range []uint64{high, high + 1, 0xaaaaaaaaaaaaaaaa, full - 1, full} {
			for _, n := range []api.Num{pos(m, e), minus(pos(m, e))} {
				f, _ := pi.Fix(n)
				expectIv(t, "Part of Fix", pi.Part(f, f), span(n, n))
			}
		}
	}
}

// TestPartOfWhatMayNotBe has noughts in the highest limbs, and noughts that are below nought.
func TestPartOfWhatMayNotBe(t *testing.T) { // P11.4, the Words of chapter 2
	loose := func(n *big.Int) []api.Whole {
		w := wholeOf(n)
		return []api.Whole{w, {Neg: w.Neg, M: append(sample.Limbs(n), 0)}, {Neg: w.Neg, M: append(sample.Limbs(n), 0, 0, 0, 0, 0, 0, 0)}}
	}
	for _, lo := range []*big.Int{bit(scale, 1), opposite(bit(scale, 1)), big.NewInt(-1), bit(300, 1)} {
		for _, hi := range []*big.Int{bit(400, -1), bit(scale, -1), opposite(bit(scale, -1)), big.NewInt(1)} {
			want := part(lo, hi)
			for _, a := range loose(lo) {
				for _, b := range loose(hi) {
					expectIv(t, "Part with noughts ahead", pi.Part(a, b), want)
				}
			}
		}
	}
	noughts := []api.Whole{{}, {Neg: true}, {M: []uint32{}}, {M: []uint32{0}}, {Neg: true, M: []uint32{0, 0, 0}}, {M: make([]uint32, 40)}}
	for _, a := range noughts {
		for _, b := range noughts {
			expectIv(t, "Part of noughts", pi.Part(a, b), api.Iv{})
		}
		expectIv(t, "Part from nought", pi.Part(a, pi.Scale()), points(0, 1))
		expectIv(t, "Part up to nought", pi.Part(pi.Scale(), a), none())
	}
}
