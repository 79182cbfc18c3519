package pi

import (
	"pelorus/api"
	"pelorus/whole"
)

// The numbers of which Inverse tells an angle: that of 1 would need more terms than anybody can wait for.
const (
	leastInverse = 2
	mostInverse  = 1000
)

// Inverse are two fixed numbers between which the angle lies whose tangent is 1 by n; noughts, if n is not from 2 to
// 1000.
func Inverse(n int) (api.Whole, api.Whole) {
	if n < leastInverse || n > mostInverse {
		return api.Whole{}, api.Whole{}
	}
	sum, count := alternating(terms(n))
	// Each term is short of the exact one by less than 1, and so is what the terms that are not there would make.
	off := whole.From(count + 1)
	return whole.Sub(sum, off), whole.Add(sum, off)
}

// alternating is the first term less the second one, and the third one, and so on, ahead of the first one that is
// nought, and how many these are.
func alternating(next func() api.Whole) (api.Whole, int) {
	sum, count := api.Whole{}, 0
	for term := next(); whole.Sign(term) != 0; term = next() {
		if count%2 == 0 {
			sum = whole.Add(sum, term)
		} else {
			sum = whole.Sub(sum, term)
		}
		count++
	}
	return sum, count
}

// terms hands out those of the angle whose tangent is 1 by n, one at each call. It keeps the power of n, which each
// term has twice more than the one ahead.
func terms(n int) func() api.Whole {
	base, power, odd := whole.From(n), whole.From(n), 1
	return func() api.Whole {
		term := piece(power, whole.From(odd))
		power = whole.Mul(power, base, base)
		odd += 2
		return term
	}
}

// piece is 1 divided by the product of all, none of which is nought, as a fixed number, rounded down.
func piece(factors ...api.Whole) api.Whole {
	out, _, _ := whole.Div(Scale(), whole.Mul(factors...))
	return out
}
