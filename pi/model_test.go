package pi_test

import (
	"math"
	"math/big"
	"testing"

	"pelorus/api"
	"pelorus/sample"
)

const (
	minE  = -1 << 20
	maxE  = 1 << 20
	high  = 1 << 63
	full  = math.MaxUint64
	scale = 192 // what a fixed number is divided by is 2 to this power
)

var (
	fin, pos, tiny, huge = sample.Fin, sample.Pos, sample.Tiny, sample.Huge
	inf, power, minus    = sample.Inf, sample.Power, sample.Minus
	span, none           = sample.Span, sample.None
)

// wholeOf is a number of the library's as one of the program's.
func wholeOf(n *big.Int) api.Whole { return sample.Whole(n) }

// bit is 2^k, and a number more.
func bit(k int, more int64) *big.Int {
	out := new(big.Int).Lsh(big.NewInt(1), uint(k))
	return out.Add(out, big.NewInt(more))
}

// times is n times 2^e, rounded down.
func times(n *big.Int, e int) *big.Int {
	if e < 0 {
		return new(big.Int).Rsh(n, uint(-e)) // the library's keeps the sign, and so rounds to below
	}
	return new(big.Int).Lsh(n, uint(e))
}

// opposite is -n.
func opposite(n *big.Int) *big.Int { return new(big.Int).Neg(n) }

// hex is a number of the library's, told by its digits.
func hex(digits string) *big.Int {
	out, is := new(big.Int).SetString(digits, 16)
	if !is {
		panic(digits)
	}
	return out
}

// bigOf is a whole number as one of the library's; it fails the test if that may not be, by the words of chapter 2.
func bigOf(t *testing.T, w api.Whole) *big.Int {
	t.Helper()
	if !sample.WholeMayBe(w) {
		t.Fatalf("%v may not be", w)
	}
	out := new(big.Int).SetBytes(sample.Bytes(w.M))
	if w.Neg {
		out.Neg(out)
	}
	return out
}

// expect fails the test unless a whole number is the wanted one.
func expect(t *testing.T, what string, got api.Whole, want *big.Int) {
	t.Helper()
	if n := bigOf(t, got); n.Cmp(want) != 0 {
		t.Errorf("%s: got %x, want %x", what, n, want)
	}
}

// expectIv fails the test unless an interval is the wanted one, which may be.
func expectIv(t *testing.T, what string, got, want api.Iv) {
	t.Helper()
	if !sample.IvMayBe(want) {
		t.Fatalf("%s: the wanted %v may not be", what, want)
	}
	if got != want {
		t.Errorf("%s: got %v, want %v", what, got, want)
	}
}

// knownPi is pi's first digits behind the point, as books tell them.
const knownPi = "14159265358979323846264338327950288419716939937510582097494459230781640628620899862803482534211706798214808651"

// aroundPi is pi times 2^k, rounded down, and what it is less than, by the known digits; there are enough of them for a
// k of some 350.
func aroundPi(k int) (*big.Int, *big.Int) {
	digits, is := new(big.Int).SetString("3"+knownPi, 10)
	if !is {
		panic(knownPi)
	}
	tens := new(big.Int).Exp(big.NewInt(10), big.NewInt(int64(len(knownPi))), nil)
	lo := new(big.Int).Div(times(digits, k), tens)
	hi := new(big.Int).Div(times(digits.Add(digits, big.NewInt(1)), k), tens)
	return lo, hi.Add(hi, big.NewInt(1))
}
