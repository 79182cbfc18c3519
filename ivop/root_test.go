package ivop_test

import (
	"fmt"
	"testing"

	"pelorus/api"
	"pelorus/ivop"
	"pelorus/num"
	"pelorus/sample"
)

func TestAbs(t *testing.T) { // P9.4
	for _, c := range []struct{ a, want api.Iv }{
		{span(1, 2), span(1, 2)}, {span(-2, -1), span(1, 2)}, {span(-3, 2), span(0, 3)}, {span(-2, 3), span(0, 3)}, {span(-2, 2), span(0, 2)},
		{span(0, 2), span(0, 2)}, {span(-2, 0), span(0, 2)}, {api.Iv{}, api.Iv{}}, {span(5, 5), span(5, 5)}, {span(-5, -5), span(5, 5)},
		{all, on(nought)}, {on(one), on(one)}, {upTo(minus(one)), on(one)}, {upTo(num.Of(5)), on(nought)}, {on(num.Of(-5)), on(nought)},
		{on(nought), on(nought)}, {upTo(nought), on(nought)}, {from(huge(true), tiny(false)), from(nought, huge(false))},
		{from(tiny(true), tiny(false)), from(nought, tiny(false))}, {at(tiny(true)), at(tiny(false))},
		{from(minus(next), one), from(nought, next)}, {from(minus(one), next), from(nought, next)}, {none(), none()},
	} {
		expect(t, fmt.Sprint("Abs of ", c.a), ivop.Abs(c.a), c.want)
		expect(t, fmt.Sprint("Abs of the opposite of ", c.a), ivop.Abs(opposite(c.a)), c.want)
	}
}

func TestSqr(t *testing.T) { // P9.4
	for _, c := range []struct{ a, want api.Iv }{
		{span(2, 3), span(4, 9)}, {span(-3, -2), span(4, 9)}, {span(-3, 2), span(0, 9)}, {span(-1, 2), span(0, 4)}, {span(-2, 2), span(0, 4)},
		{span(0, 2), span(0, 4)}, {span(-2, 0), span(0, 4)}, {api.Iv{}, api.Iv{}}, {span(-5, -5), span(25, 25)},
		{all, on(nought)}, {on(num.Of(2)), on(num.Of(4))}, {upTo(num.Of(-2)), on(num.Of(4))}, {upTo(num.Of(2)), on(nought)},
		{on(nought), on(nought)},

		// Rounded to either side, beyond the Huge, and next to nought.
		{at(next), from(pos(high+2, -63), pos(high+3, -63))}, {from(one, next), from(one, pos(high+3, -63))},
		{from(minus(next), one), from(nought, pos(high+3, -63))}, {from(below, one), from(pos(full-1, -64), one)},
		{at(below), from(pos(full-1, -64), below)},
		{at(tiny(false)), from(nought, tiny(false))}, {from(tiny(true), tiny(false)), from(nought, tiny(false))},
		{at(huge(false)), on(huge(false))}, {span(3, 3), span(9, 9)}, {from(minus(one), huge(false)), on(nought)},
		{on(huge(false)), on(huge(false))},
		{from(tiny(false), huge(false)), on(nought)}, {at(power(maxE / 2)), at(power(maxE))}, {none(), none()},
	} {
		expect(t, fmt.Sprint("Sqr of ", c.a), ivop.Sqr(c.a), c.want)
		expect(t, fmt.Sprint("Sqr of the opposite of ", c.a), ivop.Sqr(opposite(c.a)), c.want)
	}
}

func TestRoot(t *testing.T) { // P9.4
	two, more := pos(0xb504f333f9de6484, -63), pos(0xb504f333f9de6485, -63) // beside the root of 2
	low, up := two, more                                                    // beside that of the Tiny, which is 2 times a square
	low.E, up.E = minE/2-32, minE/2-32
	for _, c := range []struct{ a, want api.Iv }{
		{span(-4, 9), span(0, 3)}, {span(4, 9), span(2, 3)}, {span(0, 4), span(0, 2)}, {span(16, 16), span(4, 4)},
		{span(-4, 0), api.Iv{}}, {api.Iv{}, api.Iv{}}, {span(-4, -1), none()}, {at(tiny(true)), none()}, {from(huge(true), tiny(true)), none()},
		{all, on(nought)}, {on(num.Of(4)), on(num.Of(2))}, {upTo(num.Of(4)), span(0, 2)}, {upTo(nought), api.Iv{}}, {upTo(minus(one)), none()},
		{on(num.Of(-4)), on(nought)}, {on(nought), on(nought)},

		// Rounded to either side.
		{span(2, 2), from(two, more)}, {span(-1, 2), from(nought, more)}, {span(2, 4), from(two, num.Of(2))}, {span(1, 2), from(one, more)},
		{on(num.Of(2)), on(two)}, {at(next), from(one, next)}, {at(below), from(below, one)}, {from(below, next), from(below, next)},
		{at(tiny(false)), from(low, up)}, {from(tiny(true), tiny(false)), from(nought, up)}, {from(nought, tiny(false)), from(nought, up)},
		{at(huge(false)), from(pos(full, maxE/2-32), pos(high, maxE/2-31))}, {none(), none()},
	} {
		expect(t, fmt.Sprint("Root of ", c.a), ivop.Root(c.a), c.want)
	}
}

// TestRootLeavesWhatIsBelow holds that numbers below nought make no difference.
func TestRootLeavesWhatIsBelow(t *testing.T) { // P9.4
	for _, lo := range sample.Few() {
		for _, hi := range sample.Row() {
			if lo.Neg && !hi.Neg && hi.Kind != api.Inf {
				expect(t, "Root", ivop.Root(from(lo, hi)), ivop.Root(from(nought, hi)))
			}
		}
	}
}
