package arith_test

import (
	"math"
	"math/big"
	"math/rand"
	"slices"
	"testing"

	"pelorus/api"
	"pelorus/num"
)

const (
	minE = -1 << 20
	maxE = 1 << 20
	high = 1 << 63
	full = math.MaxUint64
)

// fin is a finite number, whether it may be or not.
func fin(neg bool, m uint64, e int) api.Num {
	return api.Num{Kind: api.Finite, Neg: neg, M: m, E: e}
}

func pos(m uint64, e int) api.Num { return fin(false, m, e) }
func tiny(neg bool) api.Num       { return fin(neg, high, minE) }
func huge(neg bool) api.Num       { return fin(neg, full, maxE) }
func inf(neg bool) api.Num        { return api.Num{Kind: api.Inf, Neg: neg} }

// power is 2^k.
func power(k int) api.Num { return pos(high, k-63) }

// minus is the opposite of a number that may be, told by the words of chapter 5 alone.
func minus(n api.Num) api.Num {
	if n.Kind != api.Zero {
		n.Neg = !n.Neg
	}
	return n
}

// mayBe tells whether a number may be, by the words of chapter 5 alone.
func mayBe(n api.Num) bool {
	finite := n.Kind == 1 && n.M > math.MaxInt64 && n.E >= minE && n.E <= maxE
	return finite || n == api.Num{} || n == inf(false) || n == inf(true)
}

// value is a number of the library's, n times 2^e.
type value struct {
	n *big.Int
	e int
}

// exactly is a number that is not infinite.
func exactly(n api.Num) value {
	out := value{new(big.Int).SetUint64(n.M), n.E}
	if n.Neg {
		out.n.Neg(out.n)
	}
	return out
}

// level has two values as multiples of one power of two, whose exponent it answers, too.
func level(a, b value) (*big.Int, *big.Int, int) {
	low := min(a.e, b.e)
	return new(big.Int).Lsh(a.n, uint(a.e-low)), new(big.Int).Lsh(b.n, uint(b.e-low)), low
}

func plus(a, b value) value {
	// Nought is a multiple of any power of two, and need not be far from the other one.
	if a.n.Sign() == 0 {
		a.e = b.e
	}
	if b.n.Sign() == 0 {
		b.e = a.e
	}
	x, y, low := level(a, b)
	return value{x.Add(x, y), low}
}

func times(a, b value) value { return value{new(big.Int).Mul(a.n, b.n), a.e + b.e} }

// beside is -1, 0 or 1, if a number is less than a value, the same, or greater.
func beside(n api.Num, v value) int {
	if n.Kind != api.Inf {
		x, y, _ := level(exactly(n), v)
		return x.Cmp(y)
	}
	if n.Neg {
		return -1
	}
	return 1
}

// rounded is the number that a value is rounded to, told by none of the project's own calls: its highest 64 bits, and
// one more, if others are cut and it is to be farther from nought.
func rounded(v value, up bool) api.Num {
	neg, size := v.n.Sign() < 0, new(big.Int).Abs(v.n)
	if v.n.Sign() == 0 {
		return api.Num{}
	}
	farther := neg != up
	over := size.BitLen() - 64
	m, e := new(big.Int).Lsh(size, uint(max(-over, 0))), v.e+over
	m.Rsh(m, uint(max(over, 0)))
	same := over <= 0 || int(size.TrailingZeroBits()) >= over
	if e < minE {
		if farther {
			return tiny(neg)
		}
		return api.Num{}
	}
	if farther && !same {
		m.Add(m, big.NewInt(1))
		if m.BitLen() > 64 {
			m.Rsh(m, 1)
			e++
		}
	}
	if e > maxE {
		if farther {
			return inf(neg)
		}
		return huge(neg)
	}
	return fin(neg, m.Uint64(), e)
}

// checkSides holds that a value is between what it is rounded to, that no other number is, and that both are one only
// if they are the value.
func checkSides(t *testing.T, what string, v value, lo, hi api.Num) {
	t.Helper()
	below, above := beside(lo, v), beside(hi, v)
	if below > 0 || above < 0 || num.Cmp(lo, hi) > 0 {
		t.Fatalf("%s: %v, %v: not on both sides", what, lo, hi)
	}
	if same := below == 0 || above == 0; same != (lo == hi) {
		t.Fatalf("%s: %v, %v: one is the same: %v", what, lo, hi, same)
	}
	if lo != hi && num.Next(lo, true) != hi {
		t.Fatalf("%s: %v, %v: another one is between", what, lo, hi)
	}
}

// expect fails the test unless a number is the wanted one, which may be.
func expect(t *testing.T, what string, got, want api.Num) {
	t.Helper()
	if !mayBe(want) {
		t.Fatalf("%s: the wanted %v may not be", what, want)
	}
	if got != want {
		t.Errorf("%s: got %v, want %v", what, got, want)
	}
}

// words are M's at which sums and products go wrong.
func words() []uint64 {
	return []uint64{high, high + 1, high + 2, 3 << 62, 1<<32 | high, 1<<62 - 1 | high, 0xaaaaaaaaaaaaaaaa, full - 1<<32, full - 1, full}
}

// row is numbers that may be, of all kinds and signs, rising.
func row() []api.Num {
	var above []api.Num
	for _, e := range []int{minE, minE + 1, minE + 64, -128, -64, -63, -62, -1, 0, 1, 63, maxE - 64, maxE - 1, maxE} {
		for _, m := range words() {
			above = append(above, pos(m, e))
		}
	}
	slices.SortFunc(above, num.Cmp)
	out := []api.Num{{}}
	for _, n := range append(above, inf(false)) {
		out = append(out, n)
		out = slices.Insert(out, 0, minus(n))
	}
	return out
}

// few are numbers of each kind and each sign, rising.
func few() []api.Num {
	var out []api.Num
	for _, n := range row() {
		switch {
		case n.Kind != api.Finite, n == tiny(n.Neg), n == huge(n.Neg), n.E == -63 && n.M == high, n.E == 0 && n.M == 3<<62:
			out = append(out, n)
		}
	}
	return out
}

// mayNot are numbers that may not be, in each of the ways.
func mayNot() []api.Num {
	out := []api.Num{{Kind: api.Zero, Neg: true}}
	for _, neg := range []bool{false, true} {
		for _, m := range []uint64{0, 1, 1 << 62, high - 1} {
			out = append(out, fin(neg, m, 0), fin(neg, m, minE), fin(neg, m, maxE))
		}
		for _, e := range []int{minE - 1, maxE + 1, 1<<32 + 5, math.MinInt64, math.MaxInt64} {
			out = append(out, fin(neg, high, e), fin(neg, full, e), api.Num{Neg: neg, E: e}, api.Num{Kind: api.Inf, Neg: neg, E: e})
		}
		for _, kind := range []int{-1, 3, 1<<32 + 1, math.MinInt64, math.MaxInt64} {
			out = append(out, api.Num{Kind: kind, Neg: neg}, api.Num{Kind: kind, Neg: neg, M: high}, api.Num{Kind: kind, Neg: neg, M: full, E: -5})
		}
		for _, kind := range []int{api.Zero, api.Inf} {
			out = append(out, api.Num{Kind: kind, Neg: neg, M: 1}, api.Num{Kind: kind, Neg: neg, M: high}, api.Num{Kind: kind, Neg: neg, E: -1})
		}
	}
	return out
}

// someWord is an M, half of them at the edges of their range.
func someWord(r *rand.Rand) uint64 {
	switch r.Intn(6) {
	case 0:
		return high + uint64(r.Intn(3))
	case 1:
		return full - uint64(r.Intn(3))
	case 2:
		return high | r.Uint64()<<r.Intn(64) // with noughts at the end
	}
	return high | r.Uint64()
}

// someE is an exponent near nought or near a bound, and within both.
func someE(r *rand.Rand) int {
	from := []int{minE, -70, maxE - 140}
	return from[r.Intn(len(from))] + r.Intn(141)
}

// someNum is a finite number.
func someNum(r *rand.Rand) api.Num {
	return fin(r.Intn(2) == 0, someWord(r), someE(r))
}
