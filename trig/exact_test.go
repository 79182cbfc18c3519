package trig_test

import (
	"math/big"
	"testing"

	"pelorus/api"
	"pelorus/iv"
	"pelorus/ivop"
	"pelorus/num"
	"pelorus/trig"
)

const (
	manyPlaces = 448 // of pi's bits behind the point
	finePlaces = 320 // of those behind the point with which exact sines are told
)

// manyBits is pi times 2^448, rounded down, as books tell its bits.
var manyBits = hex("3243f6a8885a308d313198a2e03707344a4093822299f31d0082efa98ec4e6c89452821e638d01377be5466cf34e90c6cc0ac29b7c97c50dd")

// exact is what the sine of a number, or its cosine, lies between, times 2^320; it is told by pi's known bits, by the
// series of the angle that is left, and by no words of the chapter. The number is nearer to nought than 2^30.
func exact(n api.Num, cosine bool) (*big.Int, *big.Int) {
	half := shift(manyBits, finePlaces-manyPlaces)
	x := shift(signed(n), n.E+finePlaces)
	if cosine {
		x = add(x, shift(half, -1))
	}
	// Each of fewer than 2^30 half turns, and each of the terms, is off by no more than one or two of the last places.
	turns := by(add(x, shift(half, -1)), half)
	rest := sub(x, mul(turns, half))
	square := shift(mul(rest, rest), -finePlaces)
	sum, term := rest, rest
	for k := int64(1); term.CmpAbs(whole(1)) > 0; k++ {
		term = neg(by(shift(mul(term, square), -finePlaces), whole(2*k*(2*k+1))))
		sum = add(sum, term)
	}
	if turns.Bit(0) == 1 {
		sum = neg(sum)
	}
	off := bit(33)
	return sub(sum, off), add(sum, off)
}

// place is a finite number times 2^320, which is a whole number for all ends that are answered.
func place(n api.Num) *big.Int { return shift(signed(n), n.E+finePlaces) }

// hasExact tells whether an interval has what the exact sine or cosine lies between, but for what is beyond -1 and 1.
func hasExact(x api.Iv, n api.Num, cosine bool) bool {
	lo, hi := exact(n, cosine)
	limit := bit(finePlaces)
	if lo.Cmp(neg(limit)) < 0 {
		lo = neg(limit)
	}
	if hi.Cmp(limit) > 0 {
		hi = limit
	}
	return place(x.Lo).Cmp(lo) <= 0 && place(x.Hi).Cmp(hi) >= 0
}

// TestSinesAreWithin has exact sines and cosines within what is answered, which is not wide, and not beyond -1 and 1.
func TestSinesAreWithin(t *testing.T) { // P12.4
	for _, n := range numbers() {
		for _, w := range waves() {
			got := w.at(n)
			if !hasExact(got, n, w.cosine) {
				lo, hi := exact(n, w.cosine)
				t.Errorf("%s of %v: %v, but it is from %x to %x", w.name, n, got, lo, hi)
			}
			if less(power(-60), iv.Width(got)) {
				t.Errorf("%s of %v: %v is wide", w.name, n, got)
			}
			if !iv.Within(got, unit) {
				t.Errorf("%s of %v: %v is beyond 1", w.name, n, got)
			}
		}
	}
}

// TestOpposites holds that the sine of the opposite meets the opposite of the sine, and the cosine of it the cosine.
func TestOpposites(t *testing.T) { // P12.4
	for _, n := range append(numbers(), power(30), huge(false), inf(true)) {
		if iv.Meet(trig.Sin(minus(n)), ivop.Neg(trig.Sin(n))) == none() {
			t.Errorf("sines of %v and its opposite", n)
		}
		if iv.Meet(trig.Cos(minus(n)), trig.Cos(n)) == none() {
			t.Errorf("cosines of %v and its opposite", n)
		}
	}
}

// TestSquaresMakeOne holds that the squares of the sine and the cosine make 1.
func TestSquaresMakeOne(t *testing.T) { // P12.4
	for _, n := range numbers() {
		sum := ivop.Add(ivop.Sqr(trig.Sin(n)), ivop.Sqr(trig.Cos(n)))
		if !iv.Has(sum, num.Of(1)) || less(power(-60), iv.Width(sum)) {
			t.Errorf("at %v the squares make %v", n, sum)
		}
	}
}
