package trig

import (
	"pelorus/api"
	"pelorus/pi"
	"pelorus/whole"
)

// span is from one fixed number to another one, which is not less.
type span struct {
	lo, hi api.Whole
}

// around is around all from one number to another one; false: one of these is too far from nought.
func around(lo, hi api.Num) (span, bool) {
	low, nearLow := pi.Fix(lo)
	high, nearHigh := pi.Fix(hi)
	return span{low, whole.Add(high, whole.From(1))}, nearLow && nearHigh
}

// plus is all sums.
func (s span) plus(o span) span {
	return span{whole.Add(s.lo, o.lo), whole.Add(s.hi, o.hi)}
}

// minus is all differences.
func (s span) minus(o span) span {
	return span{whole.Sub(s.lo, o.hi), whole.Sub(s.hi, o.lo)}
}

// opposite is all opposites.
func (s span) opposite() span {
	return span{whole.Neg(s.hi), whole.Neg(s.lo)}
}

// times is all products with a whole number.
func (s span) times(n api.Whole) span {
	a, b := whole.Mul(n, s.lo), whole.Mul(n, s.hi)
	if whole.Sign(n) < 0 {
		return span{b, a}
	}
	return span{a, b}
}

// meets tells whether two have a number in common.
func (s span) meets(o span) bool {
	return whole.Cmp(s.lo, o.hi) <= 0 && whole.Cmp(o.lo, s.hi) <= 0
}

// cut is a span with each end that is beyond 1 or -1 brought back to it.
func (s span) cut() span {
	return span{bounded(s.lo), bounded(s.hi)}
}

// bounded is 1 or -1, if a fixed number is beyond it; else the same.
func bounded(n api.Whole) api.Whole {
	one := pi.Scale()
	if whole.Cmp(n, one) > 0 {
		return one
	}
	if less := whole.Neg(one); whole.Cmp(n, less) < 0 {
		return less
	}
	return n
}

// sine is around the sines of all of a span, when pi lies within half. Whole multiples of pi are taken from it, until
// what is left is near nought; each of them turns the sine's sign.
func (s span) sine(half span) span {
	double := whole.From(2)
	turns := down(whole.Add(whole.Mul(double, s.lo), half.lo), whole.Mul(double, half.lo))
	rest := s.minus(half.times(turns))
	sum := Series(rest.lo)
	// No sine changes by more than its angle does.
	off := whole.Add(whole.Sub(rest.hi, rest.lo), whole.From(slack))
	out := span{whole.Sub(sum, off), whole.Add(sum, off)}
	if isOdd(turns) {
		out = out.opposite()
	}
	return out.cut()
}
