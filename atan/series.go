package atan

import (
	"pelorus/api"
	"pelorus/pi"
	"pelorus/whole"
)

const (
	// terms is how many a series has: that of a half needs fewer, to be as fine as a fixed number.
	terms = 111
	// slack is more than all the terms of a series are off by, as they are rounded.
	slack = 400
)

// Series is the sum of the series that makes the angle of a fixed tangent; nought, if that is more than 1 away from
// nought.
func Series(u api.Whole) api.Whole {
	one := pi.Scale()
	if whole.Cmp(u, one) > 0 || whole.Cmp(u, whole.Neg(one)) < 0 {
		return api.Whole{}
	}
	sum, power := api.Whole{}, u
	for k := range terms {
		// The quotient is rounded down ahead of being turned, and so its opposite is rounded up.
		term := down(power, whole.From(2*k+1))
		if k%2 == 1 {
			term = whole.Neg(term)
		}
		sum = whole.Add(sum, term)
		power = down(whole.Mul(down(whole.Mul(power, u), one), u), one)
	}
	return sum
}

// down is a quotient, rounded down; b is not nought.
func down(a, b api.Whole) api.Whole {
	q, _, _ := whole.Div(a, b)
	return q
}

// share are two fixed numbers between which pi by n lies.
func share(n int) (api.Whole, api.Whole) {
	lo, hi := pi.Bounds()
	by := whole.From(n)
	return down(lo, by), whole.Add(down(hi, by), whole.From(1))
}

// turned is what is left of a fixed tangent from 0 to 1, once its angle has been turned to where the series is short,
// and two fixed numbers between which what it was turned by lies.
func turned(v api.Whole) (u, lo, hi api.Whole) {
	one := pi.Scale()
	if whole.Cmp(whole.Mul(whole.From(2), v), one) <= 0 {
		return v, api.Whole{}, api.Whole{}
	}
	lo, hi = share(4)
	return down(whole.Mul(whole.Sub(v, one), one), whole.Add(v, one)), lo, hi
}

// part is what the angle lies in whose tangent is a number from 0 to 1.
func part(n api.Num) api.Iv {
	v, _ := pi.Fix(n)
	u, lo, hi := turned(v)
	sum, off := Series(u), whole.From(slack)
	return pi.Part(whole.Sub(whole.Add(lo, sum), off), whole.Add(whole.Add(hi, sum), off))
}
