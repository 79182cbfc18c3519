package atan_test

import (
	"math/big"
	"math/rand"
	"testing"

	"pelorus/api"
	"pelorus/atan"
	"pelorus/sample"
)

// expectSeries fails the test unless Series of a number is the wanted one.
func expectSeries(t *testing.T, what string, u, want *big.Int) {
	t.Helper()
	if got := numberOf(t, atan.Series(sample.Whole(u))); got.Cmp(want) != 0 {
		t.Errorf("Series of %s: got %x, want %x", what, got, want)
	}
}

// TestSeriesWrittenOut has sums as they were worked out by another program, of numbers and of their opposites: these
// differ by more than the sign, as quotients below nought are rounded down, too.
func TestSeriesWrittenOut(t *testing.T) { // P13.1
	third, half := by(one, whole(3)), bit(scale-1)
	for _, c := range []struct {
		name         string
		u            *big.Int
		above, below string
	}{
		{"nought", new(big.Int), "0", "0"},
		{"the last part", whole(1), "1", "-1"},
		{"2 last parts", whole(2), "2", "-2"},
		{"3 last parts", whole(3), "3", "-3"},
		{"2^96 last parts", bit(96), "1000000000000000000000000", "-ffffffffffffffffffffffff"},
		{"2^128 last parts", bit(128), "100000000000000000000000000000000", "-ffffffffffffffffffffffffffffffff"},
		{"2^130 last parts", bit(130), "3ffffffffffffffffffffffffffffffeb", "-3ffffffffffffffffffffffffffffffea"},
		{"a third", third, "525e3e8c9a7b84920cd43f9522bed64f71f84344f7595cf4", "-525e3e8c9a7b84920cd43f9522bed64f71f84344f7595cf3"},
		{"the next above a third", add(third, whole(1)), "525e3e8c9a7b84920cd43f9522bed64f71f84344f7595cf4", "-525e3e8c9a7b84920cd43f9522bed64f71f84344f7595cf4"},
		{"a half", half, "76b19c1586ed3da2b7f222f65e1d4681b70a0ac3930e6f7d", "-76b19c1586ed3da2b7f222f65e1d4681b70a0ac3930e6f7d"},
		{"the next below a half", sub(half, whole(1)), "76b19c1586ed3da2b7f222f65e1d4681b70a0ac3930e6f7c", "-76b19c1586ed3da2b7f222f65e1d4681b70a0ac3930e6f7b"},
		{"the next above a half", add(half, whole(1)), "76b19c1586ed3da2b7f222f65e1d4681b70a0ac3930e6f7e", "-76b19c1586ed3da2b7f222f65e1d4681b70a0ac3930e6f7e"},
		{"the next below 1", sub(one, whole(1)), "c9a37463a373dc3c39070a4f2a5dcd4bd25770a8f2670504", "-c9a37463a373dc3c39070a4f2a5dcd4bd25770a8f267050c"},
		{"1", one, "c9a37463a373dc3c39070a4f2a5dcd4bd25770a8f2670505", "-c9a37463a373dc3c39070a4f2a5dcd4bd25770a8f2670505"},
		{"the next above 1", add(one, whole(1)), "0", "0"},
	} {
		expectSeries(t, c.name, c.u, hex(c.above))
		expectSeries(t, "the opposite of "+c.name, neg(c.u), hex(c.below))
	}
}

// fixedNumbers are fixed numbers with a series: small ones, and those around the edges, without their opposites.
func fixedNumbers() []*big.Int {
	var out []*big.Int
	for n := range int64(100) {
		out = append(out, whole(n))
	}
	for _, k := range []uint{31, 32, 33, 63, 64, 65, 95, 96, 97, 98, 127, 128, 129, 159, 160, 188, 189, 190, 191} {
		out = append(out, sub(bit(k), whole(1)), bit(k), add(bit(k), whole(1)))
	}
	for _, n := range []*big.Int{by(one, whole(3)), by(mul(whole(2), one), whole(3)), by(pl, whole(4)), by(pl, whole(8))} {
		out = append(out, sub(n, whole(1)), n, add(n, whole(1)))
	}
	return append(out, sub(one, whole(2)), sub(one, whole(1)), one)
}

// TestSeriesTermByTerm holds sums against the chapter's words.
func TestSeriesTermByTerm(t *testing.T) { // P13.1
	for _, u := range fixedNumbers() {
		expectSeries(t, u.Text(16), u, series(u))
		expectSeries(t, "the opposite of "+u.Text(16), neg(u), series(neg(u)))
	}
	r := rand.New(rand.NewSource(1))
	for range 2000 {
		u := new(big.Int).Rand(r, bit(uint(1+r.Intn(scale))))
		expectSeries(t, u.Text(16), u, series(u))
		expectSeries(t, "the opposite of "+u.Text(16), neg(u), series(neg(u)))
	}
}

func TestSeriesOfWhatIsTooFar(t *testing.T) { // P13.1
	for _, u := range []*big.Int{
		add(one, whole(1)), add(one, whole(2)), mul(whole(2), one), bit(193), bit(194), bit(223), bit(224), bit(1000), bit(100000),
	} {
		expectSeries(t, "one too far", u, new(big.Int))
		expectSeries(t, "one too far below nought", neg(u), new(big.Int))
	}
}

// TestSeriesOfWhatMayNotBe has noughts in the highest limbs, and noughts that are below nought.
func TestSeriesOfWhatMayNotBe(t *testing.T) { // P13.1, the Words of chapter 2
	for _, u := range []*big.Int{{}, whole(1), whole(-1), bit(130), neg(bit(191)), one, neg(one), bit(195)} {
		for _, more := range []int{1, 2, 7, 300} {
			loose := api.Whole{Neg: u.Sign() < 0, M: append(sample.Limbs(u), make([]uint32, more)...)}
			if got := numberOf(t, atan.Series(loose)); got.Cmp(series(u)) != 0 {
				t.Errorf("Series(%v): got %x, want %x", loose, got, series(u))
			}
		}
	}
	for _, m := range [][]uint32{nil, {}, {0}, {0, 0, 0}} {
		if got := atan.Series(api.Whole{Neg: true, M: m}); got.Neg || len(got.M) != 0 {
			t.Errorf("Series of nought below nought, %v: %v", m, got)
		}
	}
}

// TestSeriesIsNear holds that all terms together are off by less than what the chapter leaves for it: of fixed numbers
// up to a half, as the others are turned ahead of it.
func TestSeriesIsNear(t *testing.T) { // P13.1, P13.5
	const more = finePlaces - scale
	limit := mul(whole(400), bit(more))
	for _, u := range fixedNumbers() {
		if u.Cmp(bit(scale-1)) > 0 {
			continue
		}
		exact := euler(shift(u, more))
		for _, off := range []*big.Int{sub(shift(series(u), more), exact), add(shift(series(neg(u)), more), exact)} {
			if off.CmpAbs(limit) >= 0 {
				t.Errorf("Series of %x is off by %x", u, off)
			}
		}
	}
}
