package trig

import (
	"pelorus/api"
	"pelorus/pi"
	"pelorus/whole"
)

const (
	// lastTerm is the number of a series' last term; that of a half of pi is far finer than a fixed number.
	lastTerm = 40
	// most is how far from nought the numbers go that have a series.
	most = 4
	// slack is more than all the terms of a series are off by, as they are rounded.
	slack = 200
)

// Series is the sum of a sine's series for a fixed number; nought, if that is more than 4 away from nought.
func Series(m api.Whole) api.Whole {
	one := pi.Scale()
	limit := whole.Mul(whole.From(most), one)
	if whole.Cmp(m, limit) > 0 || whole.Cmp(m, whole.Neg(limit)) < 0 {
		return api.Whole{}
	}
	m = whole.Make(m.Neg, m.M)
	sum, term := m, m
	for k := 1; k <= lastTerm; k++ {
		once := down(whole.Mul(term, m), one)
		twice := down(whole.Mul(once, m), one)
		term = whole.Neg(down(twice, whole.From(2*k*(2*k+1))))
		sum = whole.Add(sum, term)
	}
	return sum
}

// down is a quotient, rounded down; b is not nought.
func down(a, b api.Whole) api.Whole {
	q, _, _ := whole.Div(a, b)
	return q
}

// isOdd tells whether a whole number is odd.
func isOdd(n api.Whole) bool {
	_, rest, _ := whole.Div(n, whole.From(2))
	return whole.Sign(rest) != 0
}
