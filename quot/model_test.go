package quot_test

import (
	"math"
	"math/big"
	"testing"

	"pelorus/api"
	"pelorus/num"
	"pelorus/sample"
)

const (
	minE = -1 << 20
	maxE = 1 << 20
	high = 1 << 63
	full = math.MaxUint64
)

var (
	fin, pos, tiny, huge = sample.Fin, sample.Pos, sample.Tiny, sample.Huge
	inf, power, minus    = sample.Inf, sample.Power, sample.Minus
)

// value is a number of the library's: n by d, which is above nought, times 2^e.
type value struct {
	n, d *big.Int
	e    int
}

// times is a number, not infinite, as a whole one of the library's and the exponent that it is to be taken with.
func times(n api.Num) (*big.Int, int) {
	out := new(big.Int).SetUint64(n.M)
	if n.Neg {
		out.Neg(out)
	}
	return out, n.E
}

// parted is n by d times 2^e, whatever the sign of d, which is not nought.
func parted(n, d *big.Int, e int) value {
	if d.Sign() < 0 {
		n, d = new(big.Int).Neg(n), new(big.Int).Neg(d)
	}
	return value{n, d, e}
}

// byNum is one number by another one, neither of which is infinite.
func byNum(a, b api.Num) value {
	x, e := times(a)
	y, f := times(b)
	return parted(x, y, e-f)
}

// moved is n times 2^e, e not being below nought.
func moved(n *big.Int, e int) *big.Int { return new(big.Int).Lsh(n, uint(e)) }

// compare is -1, 0 or 1, if x times 2^e is less than y times 2^f, the same, or greater.
func compare(x *big.Int, e int, y *big.Int, f int) int {
	low := min(e, f)
	return moved(x, e-low).Cmp(moved(y, f-low))
}

// beside is -1, 0 or 1, if a number is less than a value, the same, or greater.
func beside(n api.Num, v value) int {
	if n.Kind == api.Inf {
		return num.Sign(n)
	}
	x, e := times(n)
	return compare(x.Mul(x, v.d), e, v.n, v.e)
}

// checkSides holds that what a number is rounded to may be, that there is no other one between, and that both are one
// only if they are the number: below and above tell on which side of it they are. That makes them what the chapter's
// Words say.
func checkSides(t *testing.T, lo, hi api.Num, below, above int) {
	t.Helper()
	if !sample.MayBe(lo) || !sample.MayBe(hi) {
		t.Fatalf("%v, %v: may not be", lo, hi)
	}
	if below > 0 || above < 0 {
		t.Fatalf("%v, %v: not on both sides", lo, hi)
	}
	if same := below == 0 || above == 0; same != (lo == hi) {
		t.Fatalf("%v, %v: one is the same: %v", lo, hi, same)
	}
	if lo != hi && num.Next(lo, true) != hi {
		t.Fatalf("%v, %v: another one is between", lo, hi)
	}
}

// checkValue is checkSides of a value.
func checkValue(t *testing.T, v value, lo, hi api.Num) {
	t.Helper()
	checkSides(t, lo, hi, beside(lo, v), beside(hi, v))
}

// expect fails the test unless a number is the wanted one, which may be.
func expect(t *testing.T, what string, got, want api.Num) {
	t.Helper()
	if !sample.MayBe(want) {
		t.Fatalf("%s: the wanted %v may not be", what, want)
	}
	if got != want {
		t.Errorf("%s: got %v, want %v", what, got, want)
	}
}

// wholeOf is a number of the library's as one of the program's.
func wholeOf(n *big.Int) api.Whole { return sample.Whole(n) }

// opposite is -n.
func opposite(n *big.Int) *big.Int { return new(big.Int).Neg(n) }

// bit is 2^k, and a number more.
func bit(k int, more int64) *big.Int {
	out := moved(big.NewInt(1), k)
	return out.Add(out, big.NewInt(more))
}
