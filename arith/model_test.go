package arith_test

import (
	"math"
	"math/big"
	"testing"

	"pelorus/api"
	"pelorus/num"
	"pelorus/sample"
)

const (
	minE = -1 << 20
	maxE = 1 << 20
	high = 1 << 63
	full = math.MaxUint64
)

var (
	fin, pos, tiny, huge = sample.Fin, sample.Pos, sample.Tiny, sample.Huge
	inf, power, minus    = sample.Inf, sample.Power, sample.Minus
)

// value is a number of the library's, n times 2^e.
type value struct {
	n *big.Int
	e int
}

// exactly is a number that is not infinite.
func exactly(n api.Num) value {
	out := value{new(big.Int).SetUint64(n.M), n.E}
	if n.Neg {
		out.n.Neg(out.n)
	}
	return out
}

// level has two values as multiples of one power of two, whose exponent it answers, too.
func level(a, b value) (*big.Int, *big.Int, int) {
	low := min(a.e, b.e)
	return new(big.Int).Lsh(a.n, uint(a.e-low)), new(big.Int).Lsh(b.n, uint(b.e-low)), low
}

func plus(a, b value) value {
	// Nought is a multiple of any power of two, and need not be far from the other one.
	if a.n.Sign() == 0 {
		a.e = b.e
	}
	if b.n.Sign() == 0 {
		b.e = a.e
	}
	x, y, low := level(a, b)
	return value{x.Add(x, y), low}
}

func times(a, b value) value { return value{new(big.Int).Mul(a.n, b.n), a.e + b.e} }

// beside is -1, 0 or 1, if a number is less than a value, the same, or greater.
func beside(n api.Num, v value) int {
	if n.Kind != api.Inf {
		x, y, _ := level(exactly(n), v)
		return x.Cmp(y)
	}
	if n.Neg {
		return -1
	}
	return 1
}

// rounded is the number that a value is rounded to, told by none of the project's own calls: its highest 64 bits, and
// one more, if others are cut and it is to be farther from nought.
func rounded(v value, up bool) api.Num {
	neg, size := v.n.Sign() < 0, new(big.Int).Abs(v.n)
	if v.n.Sign() == 0 {
		return api.Num{}
	}
	farther := neg != up
	over := size.BitLen() - 64
	m, e := new(big.Int).Lsh(size, uint(max(-over, 0))), v.e+over
	m.Rsh(m, uint(max(over, 0)))
	same := over <= 0 || int(size.TrailingZeroBits()) >= over
	if e < minE {
		if farther {
			return tiny(neg)
		}
		return api.Num{}
	}
	if farther && !same {
		m.Add(m, big.NewInt(1))
		if m.BitLen() > 64 {
			m.Rsh(m, 1)
			e++
		}
	}
	if e > maxE {
		if farther {
			return inf(neg)
		}
		return huge(neg)
	}
	return fin(neg, m.Uint64(), e)
}

// checkSides holds that a value is between what it is rounded to, that no other number is, and that both are one only
// if they are the value.
func checkSides(t *testing.T, what string, v value, lo, hi api.Num) {
	t.Helper()
	below, above := beside(lo, v), beside(hi, v)
	if below > 0 || above < 0 || num.Cmp(lo, hi) > 0 {
		t.Fatalf("%s: %v, %v: not on both sides", what, lo, hi)
	}
	if same := below == 0 || above == 0; same != (lo == hi) {
		t.Fatalf("%s: %v, %v: one is the same: %v", what, lo, hi, same)
	}
	if lo != hi && num.Next(lo, true) != hi {
		t.Fatalf("%s: %v, %v: another one is between", what, lo, hi)
	}
}

// expect fails the test unless a number is the wanted one, which may be.
func expect(t *testing.T, what string, got, want api.Num) {
	t.Helper()
	if !sample.MayBe(want) {
		t.Fatalf("%s: the wanted %v may not be", what, want)
	}
	if got != want {
		t.Errorf("%s: got %v, want %v", what, got, want)
	}
}
