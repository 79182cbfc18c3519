package back_test

import (
	"fmt"
	"math"
	"slices"
	"testing"

	"pelorus/api"
	"pelorus/back"
	"pelorus/ivop"
	"pelorus/num"
	"pelorus/sample"
)

const (
	minE = -1 << 20
	maxE = 1 << 20
	high = 1 << 63
	full = math.MaxUint64
)

var (
	pos, tiny, huge   = sample.Pos, sample.Tiny, sample.Huge
	inf, power, minus = sample.Inf, sample.Power, sample.Minus
	from, none, less  = sample.Span, sample.None, sample.Less
	nought, one       = api.Num{}, num.Of(1)
	next, below       = pos(high+1, -63), pos(full, -64) // 1's neighbours
	third             = pos(0xaaaaaaaaaaaaaaaa, -65)     // the next one below the third part of 1
	over              = pos(0xaaaaaaaaaaaaaaab, -65)     // the next one above it
	bit               = power(-70)                       // less than what 1 and its neighbours are apart
	all               = from(inf(true), inf(false))
)

// span is from one whole number to another one, which is not less.
func span(a, b int) api.Iv { return from(num.Of(a), num.Of(b)) }

// at is one number alone.
func at(n api.Num) api.Iv { return from(n, n) }

// on is all numbers from one on.
func on(n api.Num) api.Iv { return from(n, inf(false)) }

// upTo is all numbers up to one.
func upTo(n api.Num) api.Iv { return from(inf(true), n) }

// opposite is all opposites of what an interval has.
func opposite(x api.Iv) api.Iv {
	if x.Empty {
		return x
	}
	return from(minus(x.Hi), minus(x.Lo))
}

// within tells whether all of one interval is within another one; both may be.
func within(a, b api.Iv) bool {
	return a.Empty || !b.Empty && !less(a.Lo, b.Lo) && !less(b.Hi, a.Hi)
}

// meet is what two intervals have, by the words of chapter 8.
func meet(a, b api.Iv) api.Iv {
	if !sample.IvMayBe(a) || !sample.IvMayBe(b) || a.Empty || b.Empty {
		return none()
	}
	if less(a.Lo, b.Lo) {
		a.Lo = b.Lo
	}
	if less(b.Hi, a.Hi) {
		a.Hi = b.Hi
	}
	if less(a.Hi, a.Lo) {
		return none()
	}
	return a
}

// hull is the least interval that has both, by the words of chapter 8; both may be.
func hull(a, b api.Iv) api.Iv {
	switch {
	case a.Empty:
		return b
	case b.Empty:
		return a
	}
	if less(b.Lo, a.Lo) {
		a.Lo = b.Lo
	}
	if less(a.Hi, b.Hi) {
		a.Hi = b.Hi
	}
	return a
}

// expect fails the test unless an interval is the wanted one, which may be.
func expect(t *testing.T, what string, got, want api.Iv) {
	t.Helper()
	if !sample.IvMayBe(want) {
		t.Fatalf("%s: the wanted %v may not be", what, want)
	}
	if got != want {
		t.Errorf("%s: got %v, want %v", what, got, want)
	}
}

// call is one of the chapter's. A call of one operand leaves the second one aside, as promise does.
type call struct {
	name    string
	of      func(z, x, y api.Iv) (api.Iv, api.Iv)
	promise func(z, x, y api.Iv) (api.Iv, api.Iv)
}

// ofTwo are the calls of two operands.
func ofTwo() []call {
	return []call{
		{"Plus", back.Plus, func(z, x, y api.Iv) (api.Iv, api.Iv) {
			x = meet(x, ivop.Sub(z, y))
			return x, meet(y, ivop.Sub(z, x))
		}},
		{"Minus", back.Minus, func(z, x, y api.Iv) (api.Iv, api.Iv) {
			x = meet(x, ivop.Add(z, y))
			return x, meet(y, ivop.Sub(x, z))
		}},
		{"Times", back.Times, func(z, x, y api.Iv) (api.Iv, api.Iv) {
			x = part(x, z, y)
			return x, part(y, z, x)
		}},
		{"Over", back.Over, func(z, x, y api.Iv) (api.Iv, api.Iv) {
			if y == at(nought) {
				y = none()
			}
			x = meet(x, ivop.Mul(z, y))
			return x, part(y, x, z)
		}},
	}
}

// part is the chapter's Part of x by z and y.
func part(x, z, y api.Iv) api.Iv {
	if meet(z, at(nought)) == at(nought) && meet(y, at(nought)) == at(nought) {
		return meet(x, all)
	}
	return meet(x, ivop.Div(z, y))
}

// ofOne are the calls of one operand.
func ofOne() []call {
	return []call{
		{"Sqr", first(back.Sqr), first(func(z, x api.Iv) api.Iv {
			r := ivop.Root(z)
			return hull(meet(x, r), meet(x, opposite(r)))
		})},
		{"Root", first(back.Root), first(func(z, x api.Iv) api.Iv { return meet(x, ivop.Sqr(meet(z, on(nought)))) })},
		{"Neg", first(back.Neg), first(func(z, x api.Iv) api.Iv { return meet(x, ivop.Neg(z)) })},
	}
}

// first is a call of one operand as one of two.
func first(of func(z, x api.Iv) api.Iv) func(z, x, y api.Iv) (api.Iv, api.Iv) {
	return func(z, x, y api.Iv) (api.Iv, api.Iv) { return of(z, x), y }
}

// every are all calls.
func every() []call { return slices.Concat(ofTwo(), ofOne()) }

// known is a call's result and operands, and what is to be left of these.
type known struct{ z, x, y, left, right api.Iv }

// check holds what a call leaves of operands.
func (k known) check(t *testing.T, c call) {
	t.Helper()
	what := fmt.Sprintf("%s of %v, %v and %v", c.name, k.z, k.x, k.y)
	left, right := c.of(k.z, k.x, k.y)
	expect(t, what+": the first one", left, k.left)
	expect(t, what+": the second one", right, k.right)
}

// turned is the same with the opposites of the result and of either operand, as asked.
func (k known) turned(z, x, y bool) known {
	if z {
		k.z = opposite(k.z)
	}
	if x {
		k.x, k.left = opposite(k.x), opposite(k.left)
	}
	if y {
		k.y, k.right = opposite(k.y), opposite(k.right)
	}
	return k
}
