package atan_test

import (
	"math"
	"math/big"
	"testing"

	"pelorus/api"
	"pelorus/atan"
	"pelorus/iv"
	"pelorus/ivop"
	"pelorus/num"
	"pelorus/pi"
	"pelorus/quot"
	"pelorus/sample"
)

const (
	minE  = -1 << 20
	maxE  = 1 << 20
	high  = 1 << 63
	full  = math.MaxUint64
	scale = 192 // what a fixed number is divided by is 2 to this power
)

var (
	fin, pos, tiny, huge = sample.Fin, sample.Pos, sample.Tiny, sample.Huge
	inf, power, minus    = sample.Inf, sample.Power, sample.Minus
	span, none, less     = sample.Span, sample.None, sample.Less

	one = bit(scale)
	// pi's Bounds, and the intervals that are made of them, as they were worked out by another program.
	pl     = hex("3243f6a8885a308d313198a2e03707344a4093822299f2f2c")
	ph     = hex("3243f6a8885a308d313198a2e03707344a4093822299f34b4")
	aHalf  = span(pos(0xc90fdaa22168c234, -63), pos(0xc90fdaa22168c235, -63))
	aWhole = span(pos(0xc90fdaa22168c234, -62), pos(0xc90fdaa22168c235, -62))
)

func whole(n int64) *big.Int { return big.NewInt(n) }

// bit is 2^k.
func bit(k uint) *big.Int { return new(big.Int).Lsh(whole(1), k) }

func add(a, b *big.Int) *big.Int { return new(big.Int).Add(a, b) }
func sub(a, b *big.Int) *big.Int { return new(big.Int).Sub(a, b) }
func mul(a, b *big.Int) *big.Int { return new(big.Int).Mul(a, b) }
func neg(a *big.Int) *big.Int    { return new(big.Int).Neg(a) }

// by is a by b, which is above 0, rounded down: the library's leaves a rest from 0 on.
func by(a, b *big.Int) *big.Int { return new(big.Int).Div(a, b) }

// shift is n times 2^e, rounded down.
func shift(n *big.Int, e int) *big.Int {
	if e < 0 {
		return new(big.Int).Rsh(n, uint(-e)) // the library's keeps the sign, and so rounds to below
	}
	return new(big.Int).Lsh(n, uint(e))
}

// signed is the M of a number that is not infinite, with its sign.
func signed(n api.Num) *big.Int {
	out := new(big.Int).SetUint64(n.M)
	if n.Neg {
		return neg(out)
	}
	return out
}

// hex is a number of the library's, told by its digits.
func hex(digits string) *big.Int {
	out, is := new(big.Int).SetString(digits, 16)
	if !is {
		panic(digits)
	}
	return out
}

// numberOf is a whole number as one of the library's; it fails the test if that may not be.
func numberOf(t *testing.T, w api.Whole) *big.Int {
	t.Helper()
	if !sample.WholeMayBe(w) {
		t.Fatalf("%v may not be", w)
	}
	out := new(big.Int).SetBytes(sample.Bytes(w.M))
	if w.Neg {
		return neg(out)
	}
	return out
}

// expect fails the test unless an interval is the wanted one, which may be.
func expect(t *testing.T, what string, got, want api.Iv) {
	t.Helper()
	if !sample.IvMayBe(want) {
		t.Fatalf("%s: the wanted %v may not be", what, want)
	}
	if got != want {
		t.Errorf("%s: got %v, want %v", what, got, want)
	}
}

// opposite is all opposites of the numbers of an interval that is not empty.
func opposite(x api.Iv) api.Iv { return span(minus(x.Hi), minus(x.Lo)) }

// points is the interval from one whole number to another one, which is not less.
func points(lo, hi int) api.Iv { return span(num.Of(lo), num.Of(hi)) }

// series is Series(u) by the chapter's words.
func series(u *big.Int) *big.Int {
	sum := new(big.Int)
	if u.CmpAbs(one) > 0 {
		return sum
	}
	t := u
	for k := int64(0); k < 111; k++ {
		if k > 0 {
			v := by(mul(t, u), one)
			t = by(mul(v, u), one)
		}
		term := by(t, whole(2*k+1))
		if k%2 == 1 {
			term = neg(term)
		}
		sum = add(sum, term)
	}
	return sum
}

// wantPart is the angle of a part by the chapter's words: the number is from 0 to 1.
func wantPart(n api.Num) api.Iv {
	v := shift(signed(n), n.E+scale)
	u, a, b := v, new(big.Int), new(big.Int)
	if mul(whole(2), v).Cmp(one) > 0 {
		u = by(mul(sub(v, one), one), add(v, one))
		a, b = by(pl, whole(4)), add(by(ph, whole(4)), whole(1))
	}
	s := series(u)
	lo, hi := sub(add(a, s), whole(400)), add(add(b, s), whole(400))
	return pi.Part(sample.Whole(lo), sample.Whole(hi))
}

// wantAtan is Atan of a number by the chapter's words.
func wantAtan(n api.Num) api.Iv {
	if !sample.MayBe(n) {
		n = api.Num{}
	}
	switch {
	case n.Neg:
		return opposite(wantAtan(minus(n)))
	case n.Kind == api.Inf:
		return aHalf
	case !less(power(0), n):
		return wantPart(n)
	}
	below, above := quot.Div(num.Of(1), n, false), quot.Div(num.Of(1), n, true)
	return ivop.Sub(aHalf, iv.Hull(wantPart(below), wantPart(above)))
}

// wantOf is AtanOf of an interval by the chapter's words.
func wantOf(x api.Iv) api.Iv {
	if x.Empty || !sample.IvMayBe(x) {
		return none()
	}
	return iv.Hull(wantAtan(x.Lo), wantAtan(x.Hi))
}

// isPoint tells whether there is an angle of two numbers: they may be, none is infinite, and not both are nought.
func isPoint(y, x api.Num) bool {
	for _, n := range []api.Num{y, x} {
		if !sample.MayBe(n) || n.Kind == api.Inf {
			return false
		}
	}
	return y.Kind != api.Zero || x.Kind != api.Zero
}

// wantAngle is Angle of a point by the chapter's words.
func wantAngle(y, x api.Num) (api.Iv, bool) {
	switch {
	case !isPoint(y, x):
		return none(), false
	case x.Kind == api.Zero && y.Neg:
		return opposite(aHalf), true
	case x.Kind == api.Zero:
		return aHalf, true
	}
	hull := iv.Hull(wantAtan(quot.Div(y, x, false)), wantAtan(quot.Div(y, x, true)))
	switch {
	case !x.Neg:
		return hull, true
	case !y.Neg:
		return ivop.Add(aWhole, hull), true
	}
	return ivop.Sub(hull, aWhole), true
}

// checkAtan holds Atan of a number against the chapter's words.
func checkAtan(t *testing.T, n api.Num) {
	t.Helper()
	if got, want := atan.Atan(n), wantAtan(n); got != want {
		t.Fatalf("Atan(%v): got %v, want %v", n, got, want)
	}
}

// checkOf holds AtanOf of an interval against the chapter's words.
func checkOf(t *testing.T, x api.Iv) {
	t.Helper()
	if got, want := atan.AtanOf(x), wantOf(x); got != want {
		t.Fatalf("AtanOf(%v): got %v, want %v", x, got, want)
	}
}

// checkAngle holds Angle of two numbers against the chapter's words.
func checkAngle(t *testing.T, y, x api.Num) {
	t.Helper()
	got, is := atan.Angle(y, x)
	if want, has := wantAngle(y, x); got != want || is != has {
		t.Fatalf("Angle(%v, %v): got %v, %v, want %v, %v", y, x, got, is, want, has)
	}
}
