package dy_test

import (
	"encoding/binary"
	"math"
	"math/big"
	"math/rand"
	"slices"
	"testing"

	"pelorus/api"
	"pelorus/dy"
	"pelorus/whole"
)

const (
	top  = math.MaxUint32
	maxE = 1 << 22
)

// value is a dyadic number of the library's: n is odd, or both are nought.
type value struct {
	n *big.Int
	e int
}

func nought() value { return value{new(big.Int), 0} }

// number is what a sign and limbs stand for, told by none of the project's own calls.
func number(w api.Whole) *big.Int {
	var b []byte
	for _, limb := range slices.Backward(w.M) {
		b = binary.BigEndian.AppendUint32(b, limb)
	}
	n := new(big.Int).SetBytes(b)
	if w.Neg {
		n.Neg(n)
	}
	return n
}

// wholeOf is the library's number as one of package whole.
func wholeOf(n *big.Int) api.Whole {
	b := n.Bytes()
	out := api.Whole{Neg: n.Sign() < 0}
	for len(b) > 0 {
		cut := max(len(b)-4, 0)
		out.M = append(out.M, binary.BigEndian.Uint32(append(make([]byte, 4-len(b)+cut), b[cut:]...)))
		b = b[:cut]
	}
	return out
}

// canon is what Make is to make of n and e, by the chapter's words.
func canon(n *big.Int, e int) value {
	if e < -maxE || e > maxE || n.Sign() == 0 {
		return nought()
	}
	low := int(n.TrailingZeroBits())
	if e+low > maxE {
		return nought()
	}
	return value{new(big.Int).Quo(n, new(big.Int).Lsh(big.NewInt(1), uint(low))), e + low}
}

func modelOf(d api.Dy) value { return canon(number(d.N), d.E) }

func models(l []api.Dy) []value {
	var out []value
	for _, d := range l {
		out = append(out, modelOf(d))
	}
	return out
}

// level has two numbers as multiples of one power of two, whose exponent it answers, too.
func level(a, b value) (*big.Int, *big.Int, int) {
	// Nought is a multiple of any.
	if a.n.Sign() == 0 {
		a.e = b.e
	}
	if b.n.Sign() == 0 {
		b.e = a.e
	}
	low := min(a.e, b.e)
	return new(big.Int).Lsh(a.n, uint(a.e-low)), new(big.Int).Lsh(b.n, uint(b.e-low)), low
}

func compare(a, b value) int {
	x, y, _ := level(a, b)
	return x.Cmp(y)
}

// sum is that of all, from the first one on, each sum on the way within the bounds or nought.
func sum(l ...value) value {
	out := nought()
	for _, v := range l {
		x, y, low := level(out, v)
		out = canon(x.Add(x, y), low)
	}
	return out
}

func product(a, b value) value { return canon(new(big.Int).Mul(a.n, b.n), a.e+b.e) }

func floor(v value) *big.Int {
	if v.e >= 0 {
		return new(big.Int).Lsh(v.n, uint(v.e))
	}
	return new(big.Int).Div(v.n, new(big.Int).Lsh(big.NewInt(1), uint(-v.e))) // of Euclid: rounded down, above 0
}

// fraction is a number whose exponent is not far from nought.
func fraction(d api.Dy) *big.Rat {
	out := new(big.Rat).SetInt(number(d.N))
	power := new(big.Rat).SetInt(new(big.Int).Lsh(big.NewInt(1), uint(max(d.E, -d.E))))
	if d.E < 0 {
		return out.Quo(out, power)
	}
	return out.Mul(out, power)
}

// mayBe tells the same as May, by the chapter's words alone.
func mayBe(d api.Dy) bool {
	n := len(d.N.M)
	if n == 0 {
		return !d.N.Neg && d.E == 0
	}
	return d.N.M[n-1] != 0 && d.N.M[0]%2 == 1 && d.E >= -maxE && d.E <= maxE
}

// expect fails the test unless got may be and is the number want.
func expect(t *testing.T, what string, got api.Dy, want value) {
	t.Helper()
	if !mayBe(got) || !dy.May(got) {
		t.Fatalf("%s: %v %.50x times 2^%d may not be", what, got.N.Neg, got.N.M, got.E)
	}
	if n := number(got.N); got.E != want.e || n.Cmp(want.n) != 0 {
		if want.n.BitLen() > 4096 || n.BitLen() > 4096 {
			t.Fatalf("%s: a long number is wrong", what)
		}
		t.Fatalf("%s: got %x times 2^%d, want %x times 2^%d", what, n, got.E, want.n, want.e)
	}
}

// expectFraction fails the test unless got may be and is the number want.
func expectFraction(t *testing.T, what string, got api.Dy, want *big.Rat) {
	t.Helper()
	if !mayBe(got) || fraction(got).Cmp(want) != 0 {
		t.Fatalf("%s: got %v, want %v", what, got, want)
	}
}

// expectWhole fails the test unless got may be and is the number want.
func expectWhole(t *testing.T, what string, got api.Whole, want *big.Int) {
	t.Helper()
	if !whole.May(got) {
		t.Fatalf("%s: a whole number that may not be", what)
	}
	if n := number(got); n.Cmp(want) != 0 {
		if want.BitLen() > 4096 || n.BitLen() > 4096 {
			t.Fatalf("%s: a long number is wrong", what)
		}
		t.Fatalf("%s: got %x, want %x", what, n, want)
	}
}

// isNoughts tells whether an answer is the zero value.
func isNoughts(d api.Dy) bool { return !d.N.Neg && len(d.N.M) == 0 && d.E == 0 }

// of is n times 2^e, as it may be.
func of(n, e int) api.Dy { return dy.Make(whole.From(n), e) }

// raw is n and e, whether they may be or not.
func raw(n, e int) api.Dy { return api.Dy{N: whole.From(n), E: e} }

// mayNot are numbers that may not be: an even N, an N that may not be, E beyond the bounds, nought with an E.
func mayNot() []api.Dy {
	var out []api.Dy
	for _, e := range []int{0, 1, -5, maxE, maxE - 1, maxE - 63, -maxE} {
		out = append(out, raw(2, e), raw(-12, e), raw(math.MinInt64, e))
		for _, m := range [][]uint32{{0, 0, 1}, {0, 4, 0}, {3, 0}, {5, 0, 0}, {0, 0, 6, 0}, {0}, {0, 0}} {
			out = append(out, api.Dy{N: api.Whole{M: m}, E: e}, api.Dy{N: api.Whole{Neg: true, M: m}, E: e})
		}
		out = append(out, api.Dy{N: api.Whole{Neg: true}, E: e})
		if e != 0 {
			out = append(out, api.Dy{E: e}, api.Dy{N: api.Whole{M: []uint32{}}, E: e})
		}
	}
	for _, e := range []int{maxE + 1, -maxE - 1, 1 << 40, -1 << 40, math.MaxInt64, math.MinInt64, math.MaxInt64 - 1, math.MinInt64 + 1} {
		out = append(out, raw(0, e), raw(1, e), raw(-3, e), raw(2, e), raw(-1<<40, e), raw(math.MinInt64, e))
	}
	return out
}

// edges are numbers at which signs, limbs and bounds go wrong, those that may be and those that may not.
func edges() []api.Dy {
	out := []api.Dy{{}, {N: api.Whole{M: []uint32{}}}}
	for _, e := range []int{0, 1, -1, 2, -2, 31, -32, 33, -64, 65, maxE / 2, -maxE / 2, maxE - 1, maxE, -maxE + 1, -maxE} {
		out = append(out, raw(1, e), raw(-1, e), raw(3, e), raw(-7, e), raw(math.MaxInt64, e))
		out = append(out, api.Dy{N: api.Whole{Neg: true, M: []uint32{1, 0, 1 << 31}}, E: e})
	}
	return append(out, mayNot()...)
}

// someWhole is a number of up to most limbs; often it is even, or may not be.
func someWhole(r *rand.Rand, most int) api.Whole {
	hard := []uint32{0, 0, 1, 2, 1 << 31, 1<<31 + 1, top, top}
	m := make([]uint32, r.Intn(most+1))
	for i := range m {
		m[i] = r.Uint32()
		if r.Intn(2) == 0 {
			m[i] = hard[r.Intn(len(hard))]
		}
	}
	return api.Whole{Neg: r.Intn(2) == 0, M: m}
}

// someE is an exponent near nought or near a bound, now and then beyond it.
func someE(r *rand.Rand) int {
	from := []int{0, 0, maxE - 60, -maxE}
	return from[r.Intn(len(from))] + r.Intn(150) - 50
}

// someNear is a number, whether it may be or not, whose exponent is not far from nought.
func someNear(r *rand.Rand) api.Dy {
	return api.Dy{N: someWhole(r, 4), E: r.Intn(201) - 100}
}

// near hands to try many pairs of numbers whose exponents are not far apart, many of them nearly the same.
func near(try func(a, b api.Dy)) {
	r := rand.New(rand.NewSource(3))
	for range 10000 {
		a := someNear(r)
		try(a, someNear(r))
		try(a, raw(r.Intn(5)-2, a.E+r.Intn(5)-2))
		shift := r.Intn(70)
		n := new(big.Int).Lsh(number(a.N), uint(shift))
		n.Add(n, big.NewInt(int64(r.Intn(3)-1)))
		try(a, api.Dy{N: wholeOf(n), E: a.E - shift})
	}
}

// apart is how far the exponents are from each other that two numbers are taken for; nought has all of them.
func apart(a, b api.Dy) int {
	x, y := modelOf(a), modelOf(b)
	if x.n.Sign() == 0 || y.n.Sign() == 0 {
		return 0
	}
	return max(x.e-y.e, y.e-x.e)
}

// withEach hands to try all edges with each of the others, and a few whose exponents are far apart: a sum of these
// is so long that there are not many of them.
func withEach(others []api.Dy, try func(a, b api.Dy)) {
	for _, a := range edges() {
		for _, b := range others {
			if apart(a, b) < 1000 {
				try(a, b)
			}
		}
	}
	far := []api.Dy{of(5, maxE), raw(-6, maxE-1), of(-5, -maxE), raw(12, -maxE), of(1, 0), of(-7, maxE/2)}
	for _, a := range far {
		for _, b := range far {
			try(a, b)
		}
	}
}

// pairs hands to try pairs of edges.
func pairs(try func(a, b api.Dy)) { withEach(edges(), try) }

func one(is bool) int {
	if is {
		return 1
	}
	return 0
}
