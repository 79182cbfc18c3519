package pi_test

import (
	"math"
	"math/big"
	"testing"

	"pelorus/pi"
)

// angle is what a fixed angle is by the chapter's words, told with another scale than 2^192 too: A, and K.
func angle(n, bits int) (*big.Int, *big.Int) {
	sum, one, base := new(big.Int), bit(bits, 0), big.NewInt(int64(n))
	for k := int64(0); ; k++ {
		odd := big.NewInt(2*k + 1)
		term := new(big.Int).Exp(base, odd, nil)
		term.Mul(term, odd)
		term.Div(one, term)
		if term.Sign() == 0 {
			return sum, big.NewInt(k)
		}
		if k%2 == 0 {
			sum.Add(sum, term)
		} else {
			sum.Sub(sum, term)
		}
	}
}

// inverse is Inverse(n) by the chapter's words, for an n that has one.
func inverse(n int) (*big.Int, *big.Int) {
	sum, count := angle(n, scale)
	count.Add(count, big.NewInt(1))
	return new(big.Int).Sub(sum, count), new(big.Int).Add(sum, count)
}

// TestInverseTermByTerm holds all that there are against the chapter's words.
func TestInverseTermByTerm(t *testing.T) { // P11.2
	for n := 2; n <= 1000; n++ {
		lo, hi := pi.Inverse(n)
		wantLo, wantHi := inverse(n)
		expect(t, "lower", lo, wantLo)
		expect(t, "upper", hi, wantHi)
		if t.Failed() {
			t.Fatalf("at Inverse(%d)", n)
		}
	}
}

// TestInverseWrittenOut has both answers as they were worked out by another program, and how many terms there are.
func TestInverseWrittenOut(t *testing.T) { // P11.2
	for _, c := range []struct {
		n      int
		lo, hi string
		terms  int64
	}{
		{2, "76b19c1586ed3da2b7f222f65e1d4681b70a0ac3930e6f20", "76b19c1586ed3da2b7f222f65e1d4681b70a0ac3930e6fda", 92},
		{3, "525e3e8c9a7b84920cd43f9522bed64f71f84344f7595cb8", "525e3e8c9a7b84920cd43f9522bed64f71f84344f7595d2e", 58},
		{5, "328883f1ee4c16cbb3c14c813aedc47080911849cba601a8", "328883f1ee4c16cbb3c14c813aedc47080911849cba601fa", 40},
		{7, "24535d88ec71b910ab1de3613b5e70324511c77e9bb5126a", "24535d88ec71b910ab1de3613b5e70324511c77e9bb512ae", 33},
		{239, "112352597c798fa0a3ecf796adaf4f0d942131ea4303abb", "112352597c798fa0a3ecf796adaf4f0d942131ea4303ad5", 12},
		{999, "419a0120692025a0ef40e126edbbd69bc27f81ed4eec15", "419a0120692025a0ef40e126edbbd69bc27f81ed4eec29", 9},
		{1000, "418935dd45b855b9c500f93a615b316ccf64df1d3db3de", "418935dd45b855b9c500f93a615b316ccf64df1d3db3f2", 9},
	} {
		lo, hi := pi.Inverse(c.n)
		expect(t, "lower", lo, hex(c.lo))
		expect(t, "upper", hi, hex(c.hi))
		apart := new(big.Int).Sub(bigOf(t, hi), bigOf(t, lo))
		if apart.Cmp(big.NewInt(2*c.terms+2)) != 0 {
			t.Errorf("Inverse(%d): %v apart, with %d terms", c.n, apart, c.terms)
		}
	}
}

func TestInverseOfNone(t *testing.T) { // P11.2, R4
	for _, n := range []int{
		1, 0, -1, -2, -3, -5, -239, -1000, -1001, 1001, 1002, 1003, 2000, 65536 + 5, 1<<32 + 5, -(1<<32 - 5), 1<<62 + 2,
		math.MinInt32, math.MaxInt32, math.MinInt64, math.MinInt64 + 1, math.MinInt64 + 5, math.MaxInt64 - 1, math.MaxInt64,
	} {
		lo, hi := pi.Inverse(n)
		if lo.Neg || hi.Neg || len(lo.M) != 0 || len(hi.M) != 0 {
			t.Errorf("Inverse(%d): %v, %v", n, lo, hi)
		}
	}
}

// TestInverseIsAroundTheAngle holds both answers against the angle with 256 bits more, which is off by less than its
// terms are many, and one.
func TestInverseIsAroundTheAngle(t *testing.T) { // P11.2
	const more = 256
	for n := 2; n <= 1000; n++ {
		sum, off := angle(n, scale+more)
		off.Add(off, big.NewInt(1))
		least, most := new(big.Int).Sub(sum, off), new(big.Int).Add(sum, off)
		lo, hi := pi.Inverse(n)
		if times(bigOf(t, lo), more).Cmp(least) >= 0 || times(bigOf(t, hi), more).Cmp(most) <= 0 {
			t.Fatalf("Inverse(%d): %v, %v: the angle is beyond", n, lo, hi)
		}
	}
}

// TestInverseMakesPi has angles that make an eighth turn together, which is a quarter of the known pi.
func TestInverseMakesPi(t *testing.T) { // P11.2
	type many struct {
		count int64
		n     int
	}
	least, most := aroundPi(scale - 2)
	for _, sum := range [][]many{
		{{1, 2}, {1, 3}},
		{{2, 3}, {1, 7}},
		{{1, 2}, {1, 5}, {1, 8}},
		{{4, 5}, {-1, 239}},
		{{2, 2}, {-1, 7}},
		{{8, 10}, {-1, 239}, {-4, 515}},
	} {
		lo, hi := new(big.Int), new(big.Int)
		for _, c := range sum {
			a, b := pi.Inverse(c.n)
			if c.count < 0 {
				a, b = b, a
			}
			lo.Add(lo, new(big.Int).Mul(big.NewInt(c.count), bigOf(t, a)))
			hi.Add(hi, new(big.Int).Mul(big.NewInt(c.count), bigOf(t, b)))
		}
		if lo.Cmp(least) >= 0 || hi.Cmp(most) <= 0 {
			t.Errorf("%v: from %x to %x, not around %x", sum, lo, hi, least)
		}
	}
}
