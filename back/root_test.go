package back_test

import (
	"fmt"
	"testing"

	"pelorus/api"
	"pelorus/back"
	"pelorus/num"
)

// alone is what is known of one operand, and what is to be left of it.
type alone []struct{ z, x, want api.Iv }

// check holds what a call leaves of an operand.
func (l alone) check(t *testing.T, name string, of func(z, x api.Iv) api.Iv) {
	t.Helper()
	for _, c := range l {
		expect(t, fmt.Sprintf("%s of %v and %v", name, c.z, c.x), of(c.z, c.x), c.want)
	}
}

func TestSqr(t *testing.T) { // P10.3
	two, more := pos(0xb504f333f9de6484, -63), pos(0xb504f333f9de6485, -63) // beside the root of 2
	up := more                                                              // next above that of the Tiny, which is 2 times a square
	up.E = minE/2 - 32
	l := alone{
		// Z is above nought: x on either side of it, and on both.
		{span(4, 9), span(-5, 5), span(-3, 3)}, {span(4, 9), span(0, 5), span(2, 3)}, {span(4, 9), span(1, 5), span(2, 3)},
		{span(4, 9), span(-1, 5), span(2, 3)}, {span(4, 9), span(-2, 5), span(-2, 3)}, {span(4, 9), span(-5, 2), span(-3, 2)},
		{span(4, 9), span(-1, 1), none()}, {span(4, 9), span(4, 5), none()}, {span(4, 9), span(-9, -4), none()}, {span(4, 9), api.Iv{}, none()},
		{span(4, 9), span(2, 2), span(2, 2)}, {span(4, 9), span(3, 5), span(3, 3)}, {span(4, 9), span(1, 1), none()}, {span(16, 16), all, span(-4, 4)},

		// Z is around nought, below it, and nought alone.
		{span(-4, 9), span(-5, 5), span(-3, 3)}, {span(-4, 9), span(1, 5), span(1, 3)}, {span(0, 4), span(-1, 5), span(-1, 2)},
		{span(-4, 0), span(-5, 5), api.Iv{}}, {span(-4, 9), api.Iv{}, api.Iv{}}, {span(-4, 9), span(4, 5), none()}, {span(-4, -1), span(-5, 5), none()},
		{at(tiny(true)), all, none()}, {upTo(minus(one)), all, none()}, {api.Iv{}, span(-5, 5), api.Iv{}}, {api.Iv{}, span(1, 5), none()},

		// Infinite ends.
		{all, all, all}, {all, span(-1, 2), span(-1, 2)}, {on(num.Of(4)), all, all}, {on(num.Of(4)), on(nought), on(num.Of(2))},
		{on(num.Of(4)), span(-1, 5), span(2, 5)}, {on(num.Of(4)), span(-1, 1), none()}, {upTo(num.Of(9)), all, span(-3, 3)},
		{upTo(num.Of(9)), on(one), span(1, 3)}, {span(4, 9), on(num.Of(-1)), span(2, 3)}, {span(4, 9), on(num.Of(-2)), span(-2, 3)},

		// Rounded to either side, the Huge, and the Tiny.
		{span(2, 2), all, from(minus(more), more)}, {span(2, 2), on(nought), from(two, more)}, {span(2, 2), at(two), at(two)}, {span(2, 2), at(more), at(more)},
		{span(2, 2), from(one, pos(two.M-1, -63)), none()}, {span(2, 2), from(minus(one), two), at(two)},
		{at(tiny(false)), all, from(minus(up), up)}, {at(huge(false)), on(one), from(pos(full, maxE/2-32), pos(high, maxE/2-31))},
		{at(one), from(tiny(true), huge(false)), at(one)}, {at(one), from(tiny(true), tiny(false)), none()},
		{none(), all, none()}, {all, none(), none()},
	}
	l.check(t, "Sqr", back.Sqr)
	for i, c := range l {
		l[i].x, l[i].want = opposite(c.x), opposite(c.want)
	}
	l.check(t, "Sqr", back.Sqr)
}

func TestRoot(t *testing.T) { // P10.3
	alone{
		// Z is below nought, around it, and above it.
		{span(-3, -2), span(-5, 100), none()}, {at(tiny(true)), all, none()}, {upTo(minus(one)), all, none()},
		{span(-2, 3), span(-5, 100), span(0, 9)}, {span(-3, 2), span(-5, 100), span(0, 4)}, {span(-2, 0), span(-5, 100), api.Iv{}},
		{span(0, 3), span(-5, 100), span(0, 9)}, {api.Iv{}, span(-5, 100), api.Iv{}}, {span(2, 3), span(-5, 100), span(4, 9)}, {span(3, 3), all, span(9, 9)},

		// X is below nought, and above it.
		{span(2, 3), span(-5, -1), none()}, {span(-2, 3), span(-5, -1), none()}, {span(-2, 3), span(-5, 0), api.Iv{}}, {span(2, 3), span(-5, 0), none()},
		{span(-2, 3), api.Iv{}, api.Iv{}}, {span(2, 3), api.Iv{}, none()}, {span(2, 3), span(5, 6), span(5, 6)}, {span(2, 3), span(5, 100), span(5, 9)},
		{span(2, 3), span(10, 12), none()}, {span(2, 3), span(1, 4), span(4, 4)}, {span(2, 3), span(7, 7), span(7, 7)}, {span(-3, -2), span(4, 9), none()},

		// Infinite ends.
		{all, all, on(nought)}, {all, span(-5, 5), span(0, 5)}, {on(num.Of(2)), all, on(num.Of(4))}, {on(num.Of(-2)), all, on(nought)},
		{upTo(num.Of(3)), all, span(0, 9)}, {upTo(nought), all, api.Iv{}}, {span(2, 3), on(num.Of(5)), span(5, 9)}, {span(2, 3), upTo(num.Of(5)), span(4, 5)},

		// Rounded to either side, the Huge, and the Tiny.
		{at(next), all, from(pos(high+2, -63), pos(high+3, -63))}, {at(next), span(1, 1), none()}, {at(below), all, from(pos(full-1, -64), below)},
		{at(huge(false)), all, on(huge(false))}, {at(tiny(false)), all, from(nought, tiny(false))}, {from(tiny(true), tiny(false)), all, from(nought, tiny(false))},
		{from(huge(true), huge(false)), all, on(nought)}, {none(), all, none()}, {all, none(), none()},
	}.check(t, "Root", back.Root)
}

func TestNeg(t *testing.T) { // P10.3
	alone{
		{span(1, 2), span(-9, 9), span(-2, -1)}, {span(-2, 1), span(-9, 9), span(-1, 2)}, {span(-2, -1), span(-9, 9), span(1, 2)},
		{span(1, 5), span(-3, 9), span(-3, -1)}, {span(1, 5), span(-1, 9), span(-1, -1)}, {span(1, 5), span(0, 9), none()}, {span(1, 5), span(-3, -2), span(-3, -2)},
		{api.Iv{}, span(-1, 1), api.Iv{}}, {api.Iv{}, span(1, 2), none()}, {span(-1, 1), api.Iv{}, api.Iv{}},
		{all, all, all}, {all, span(1, 2), span(1, 2)}, {on(one), all, upTo(minus(one))}, {upTo(one), span(-5, 5), span(-1, 5)}, {on(one), on(nought), none()},
		{at(huge(false)), all, at(huge(true))}, {from(tiny(true), next), all, from(minus(next), tiny(false))}, {at(tiny(false)), on(nought), none()},
		{none(), all, none()}, {all, none(), none()},
	}.check(t, "Neg", back.Neg)
}
