package trig_test

import (
	"math/big"
	"math/rand"
	"testing"

	"pelorus/api"
	"pelorus/sample"
	"pelorus/trig"
)

// expectSeries fails the test unless Series of a number is the wanted one.
func expectSeries(t *testing.T, what string, m, want *big.Int) {
	t.Helper()
	if got := numberOf(t, trig.Series(sample.Whole(m))); got.Cmp(want) != 0 {
		t.Errorf("Series of %s: got %x, want %x", what, got, want)
	}
}

// TestSeriesWrittenOut has sums as they were worked out by another program, of numbers and of their opposites: these
// differ by more than the sign, as quotients below nought are rounded down, too.
func TestSeriesWrittenOut(t *testing.T) { // P12.1
	for _, c := range []struct {
		name         string
		m            *big.Int
		above, below string
	}{
		{"nought", new(big.Int), "0", "0"},
		{"the last part", whole(1), "1", "-1"},
		{"2^97 last parts", bit(97), "2000000000000000000000000", "-1ffffffffffffffffffffffff"},
		{"2^128 last parts", bit(128), "100000000000000000000000000000000", "-ffffffffffffffffffffffffffffffff"},
		{"1", one, "d76aa47848677020c6e9e909c50f3c3289e511132f518b59", "-d76aa47848677020c6e9e909c50f3c3289e511132f518b42"},
		{"a quarter of pi", by(pl, whole(4)), "b504f333f9de6484597d89b3754abe9f1d6f60ba893ba7e0", "-b504f333f9de6484597d89b3754abe9f1d6f60ba893ba7ca"},
		{"half of pi", by(pl, whole(2)), "100000000000000000000000000000000000000000000000e", "-fffffffffffffffffffffffffffffffffffffffffffffff5"},
		{"4", mul(whole(4), one), "-c1bdceeee0f5738674c02ad072286c9e2d38d0d34ac2fd53", "c1bdceeee0f5738674c02ad072286c9e2d38d0d34ac2fd75"},
		{"the next below 4", sub(mul(whole(4), one), whole(1)), "-c1bdceeee0f5738674c02ad072286c9e2d38d0d34ac2fd52", "c1bdceeee0f5738674c02ad072286c9e2d38d0d34ac2fd72"},
		{"the next above 4", add(mul(whole(4), one), whole(1)), "0", "0"},
	} {
		expectSeries(t, c.name, c.m, hex(c.above))
		expectSeries(t, "the opposite of "+c.name, neg(c.m), hex(c.below))
	}
}

// fixedNumbers are fixed numbers with a series: small ones, and those around the edges, without their opposites.
func fixedNumbers() []*big.Int {
	var out []*big.Int
	for n := range int64(100) {
		out = append(out, whole(n))
	}
	for _, k := range []uint{31, 32, 33, 63, 64, 65, 95, 96, 97, 98, 127, 128, 129, 159, 160, 189, 190, 191, 192, 193} {
		out = append(out, sub(bit(k), whole(1)), bit(k), add(bit(k), whole(1)))
	}
	for _, n := range []*big.Int{by(pl, whole(4)), by(pl, whole(2)), by(ph, whole(2)), pl, ph, by(one, whole(3)), mul(whole(3), one)} {
		out = append(out, sub(n, whole(1)), n, add(n, whole(1)))
	}
	four := mul(whole(4), one)
	return append(out, four, sub(four, whole(1)), sub(four, whole(2)))
}

// TestSeriesTermByTerm holds sums against the chapter's words.
func TestSeriesTermByTerm(t *testing.T) { // P12.1
	for _, m := range fixedNumbers() {
		expectSeries(t, m.Text(16), m, series(m))
		expectSeries(t, "opposite of "+m.Text(16), neg(m), series(neg(m)))
	}
	r := rand.New(rand.NewSource(1))
	for range 2000 {
		m := new(big.Int).Rand(r, bit(uint(1+r.Intn(194))))
		expectSeries(t, m.Text(16), m, series(m))
		expectSeries(t, "opposite of "+m.Text(16), neg(m), series(neg(m)))
	}
}

func TestSeriesOfWhatIsTooFar(t *testing.T) { // P12.1
	four := mul(whole(4), one)
	for _, m := range []*big.Int{
		add(four, whole(1)), add(four, whole(2)), mul(whole(5), one), bit(195), bit(222), bit(224), bit(1000), bit(100000),
	} {
		expectSeries(t, "one too far", m, new(big.Int))
		expectSeries(t, "one too far below nought", neg(m), new(big.Int))
	}
}

// TestSeriesOfWhatMayNotBe has noughts in the highest limbs, and noughts that are below nought.
func TestSeriesOfWhatMayNotBe(t *testing.T) { // P12.1, the Words of chapter 2
	for _, m := range []*big.Int{{}, whole(1), whole(-1), one, neg(one), mul(whole(-4), one), bit(195)} {
		for _, more := range []int{1, 2, 7, 300} {
			loose := api.Whole{Neg: m.Sign() < 0, M: append(sample.Limbs(m), make([]uint32, more)...)}
			if got := numberOf(t, trig.Series(loose)); got.Cmp(series(m)) != 0 {
				t.Errorf("Series(%v): got %x, want %x", loose, got, series(m))
			}
		}
	}
	for _, m := range [][]uint32{nil, {}, {0}, {0, 0, 0}} {
		if got := trig.Series(api.Whole{Neg: true, M: m}); got.Neg || len(got.M) != 0 {
			t.Errorf("Series of nought below nought, %v: %v", m, got)
		}
	}
}
