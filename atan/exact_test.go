package atan_test

import (
	"math/big"
	"testing"

	"pelorus/api"
	"pelorus/atan"
	"pelorus/iv"
	"pelorus/ivop"
	"pelorus/num"
	"pelorus/trig"
)

// finePlaces is how many places behind the point exact angles are told with.
const finePlaces = 448

// fineBits is pi times 2^448, rounded down, as books tell its bits.
var fineBits = hex("3243f6a8885a308d313198a2e03707344a4093822299f31d0082efa98ec4e6c89452821e638d01377be5466cf34e90c6cc0ac29b7c97c50dd")

// euler is the angle of a tangent from 0 to 1, both times 2^448: it is told by Euler's series, which needs no turning
// and has no terms below nought, and so by no words of the chapter. It is off by less than 2^12.
func euler(t *big.Int) *big.Int {
	unit := bit(finePlaces)
	square := mul(t, t)
	below := add(mul(unit, unit), square)
	ratio := by(mul(square, unit), below)
	term := by(mul(t, mul(unit, unit)), below)
	sum := new(big.Int)
	for n := int64(1); term.Sign() > 0; n++ {
		sum = add(sum, term)
		term = by(mul(mul(term, ratio), whole(2*n)), mul(unit, whole(2*n+1)))
	}
	return sum
}

// slope is how far a number is from nought, by how far another one is, times 2^448, rounded down: the other one is as
// far or farther, and not there.
func slope(a, b api.Num) *big.Int {
	top := shift(new(big.Int).SetUint64(a.M), max(a.E-b.E, -2*finePlaces)+2*finePlaces)
	return shift(by(top, new(big.Int).SetUint64(b.M)), -finePlaces)
}

// exact is what the angle of a point lies between, times 2^448: the point is not nought.
func exact(y, x api.Num) (*big.Int, *big.Int) {
	far, near := x, y
	far.Neg, near.Neg = false, false
	steep := less(far, near)
	if steep {
		far, near = near, far
	}
	angle := euler(slope(near, far))
	if steep {
		angle = sub(shift(fineBits, -1), angle)
	}
	if x.Neg {
		angle = sub(fineBits, angle)
	}
	if y.Neg {
		angle = neg(angle)
	}
	off := bit(13)
	return sub(angle, off), add(angle, off)
}

// TestExact holds exact angles against those that are shares of pi, and against sums that are.
func TestExact(t *testing.T) {
	pi := func(many, by64 int64) *big.Int { return by(mul(fineBits, whole(many)), whole(by64)) }
	for _, c := range []struct {
		y, x int
		want *big.Int
	}{
		{0, 1, new(big.Int)}, {1, 1, pi(1, 4)}, {1, 0, pi(1, 2)}, {1, -1, pi(3, 4)}, {0, -1, pi(1, 1)},
		{-1, 1, pi(-1, 4)}, {-1, 0, pi(-1, 2)}, {-1, -1, pi(-3, 4)},
	} {
		if lo, hi := exact(num.Of(c.y), num.Of(c.x)); lo.Cmp(c.want) > 0 || hi.Cmp(c.want) < 0 {
			t.Errorf("of %d, %d: from %x to %x, not %x", c.y, c.x, lo, hi, c.want)
		}
	}
	oneLo, oneHi := exact(num.Of(1), num.Of(2))
	twoLo, twoHi := exact(num.Of(1), num.Of(3))
	if add(oneLo, twoLo).Cmp(pi(1, 4)) > 0 || add(oneHi, twoHi).Cmp(pi(1, 4)) < 0 {
		t.Error("those of 1/2 and 1/3 are no eighth turn")
	}
}

// place is a number that is not infinite times 2^448, which is a whole number for all ends that are answered.
func place(n api.Num) *big.Int { return shift(signed(n), n.E+finePlaces) }

// checkExact holds that an interval has the exact angle of a point, and is not wide.
func checkExact(t *testing.T, what string, got api.Iv, y, x api.Num) {
	t.Helper()
	lo, hi := exact(y, x)
	if place(got.Lo).Cmp(lo) > 0 || place(got.Hi).Cmp(hi) < 0 {
		t.Errorf("%s of %v, %v: %v, but it is from %x to %x", what, y, x, got, lo, hi)
	}
	if less(power(-60), iv.Width(got)) {
		t.Errorf("%s of %v, %v: %v is wide", what, y, x, got)
	}
}

// TestAnglesOfTangentsAreWithin has exact angles within what is answered, which is not wide.
func TestAnglesOfTangentsAreWithin(t *testing.T) { // P13.5
	for _, n := range numbers() {
		checkExact(t, "Atan", atan.Atan(n), n, num.Of(1))
	}
}

// TestAnglesOfPointsAreWithin has exact angles within what is answered, which is not wide.
func TestAnglesOfPointsAreWithin(t *testing.T) { // P13.5
	for _, p := range places() {
		checkExact(t, "Angle", angleOf(t, p), p.y, p.x)
	}
}

// TestTangentsAreTheNumbers holds that the sine of an angle by its cosine is the number of which it is the angle.
func TestTangentsAreTheNumbers(t *testing.T) { // P13.5
	for _, n := range numbers() {
		angle := atan.Atan(n)
		if got := ivop.Div(trig.SinOf(angle), trig.CosOf(angle)); !iv.Has(got, n) {
			t.Errorf("Atan(%v) is %v, of which the tangent is %v", n, angle, got)
		}
	}
}

// TestSinesLieAsPointsDo holds that the sine of a point's angle, times x, meets its cosine, times y, and that both lie
// to the same side of nought as the point.
func TestSinesLieAsPointsDo(t *testing.T) { // P13.5
	for _, p := range places() {
		angle := angleOf(t, p)
		sin, cos := trig.SinOf(angle), trig.CosOf(angle)
		y, x := iv.Point(p.y), iv.Point(p.x)
		if iv.Meet(ivop.Mul(sin, x), ivop.Mul(cos, y)).Empty {
			t.Errorf("Angle(%v, %v) is %v, with the sine %v and the cosine %v", p.y, p.x, angle, sin, cos)
		}
		if along := ivop.Add(ivop.Mul(sin, y), ivop.Mul(cos, x)); along.Hi.Neg {
			t.Errorf("Angle(%v, %v) is %v, which is on the far side", p.y, p.x, angle)
		}
	}
}
