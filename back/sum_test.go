package back_test

import (
	"testing"

	"pelorus/api"
	"pelorus/num"
)

// TestPlusAndMinus asks Minus, too: x and y make what x and the opposite of y make, less it.
func TestPlusAndMinus(t *testing.T) { // P10.1
	plus, less := ofTwo()[0], ofTwo()[1]
	for _, k := range []known{
		// Something, everything, and nothing is left.
		{span(3, 3), span(0, 5), span(1, 1), span(2, 2), span(1, 1)}, {span(0, 3), span(0, 10), span(0, 10), span(0, 3), span(0, 3)},
		{span(5, 6), span(0, 10), span(2, 3), span(2, 4), span(2, 3)}, {span(5, 6), span(3, 3), span(0, 9), span(3, 3), span(2, 3)},
		{span(-1, 1), span(-9, 2), span(-1, 9), span(-9, 2), span(-1, 9)}, {span(-1, 1), span(2, 9), span(-4, 9), span(2, 5), span(-4, -1)},
		{span(0, 10), span(1, 2), span(3, 4), span(1, 2), span(3, 4)}, {all, span(1, 2), span(-3, 4), span(1, 2), span(-3, 4)},
		{span(10, 11), span(0, 1), span(2, 3), none(), none()}, {span(-1, 1), span(1, 2), span(1, 2), none(), none()},
		{span(4, 9), span(1, 2), span(2, 3), span(1, 2), span(2, 3)}, {span(5, 9), span(1, 2), span(2, 3), span(2, 2), span(3, 3)},
		{span(6, 9), span(1, 2), span(2, 3), none(), none()}, {api.Iv{}, span(-1, 3), span(-2, 5), span(-1, 2), span(-2, 1)},
		{api.Iv{}, api.Iv{}, api.Iv{}, api.Iv{}, api.Iv{}}, {span(1, 1), api.Iv{}, span(0, 2), api.Iv{}, span(1, 1)},
		{span(1, 1), span(0, 2), api.Iv{}, span(1, 1), api.Iv{}}, {api.Iv{}, span(5, 5), all, span(5, 5), span(-5, -5)},

		// Infinite ends.
		{span(1, 2), all, all, all, all}, {span(1, 2), all, span(3, 5), span(-4, -1), span(3, 5)}, {span(1, 2), span(3, 5), all, span(3, 5), span(-4, -1)},
		{on(num.Of(5)), on(one), span(0, 2), on(num.Of(3)), span(0, 2)}, {on(num.Of(5)), span(0, 2), on(one), span(0, 2), on(num.Of(3))},
		{upTo(num.Of(5)), on(one), on(num.Of(2)), span(1, 3), span(2, 4)}, {upTo(nought), on(one), all, on(one), upTo(num.Of(-1))},
		{upTo(num.Of(2)), on(one), on(num.Of(2)), none(), none()}, {on(nought), on(one), on(num.Of(2)), on(one), on(num.Of(2))},
		{upTo(nought), upTo(one), upTo(num.Of(2)), upTo(one), upTo(num.Of(2))}, {all, all, all, all, all},
		{span(0, 1), on(nought), upTo(nought), on(nought), upTo(nought)}, {span(1, 4), on(nought), on(nought), span(0, 4), span(0, 4)},

		// Ends rounded to either side, the Huge, and the Tiny.
		{at(one), all, at(bit), from(below, one), at(bit)}, {at(one), at(bit), all, at(bit), from(below, one)},
		{at(minus(one)), all, at(bit), from(minus(next), minus(one)), at(bit)}, {at(bit), all, at(one), from(minus(one), minus(below)), at(one)},
		{from(one, next), all, from(minus(bit), bit), from(below, pos(high+2, -63)), from(minus(bit), bit)},
		{at(huge(false)), on(nought), at(huge(false)), api.Iv{}, at(huge(false))},
		{at(huge(true)), all, at(huge(false)), upTo(huge(true)), at(huge(false))},
		{at(huge(true)), from(huge(true), huge(false)), at(huge(false)), at(huge(true)), none()},
		{at(huge(true)), span(-5, 5), at(huge(false)), none(), none()}, {api.Iv{}, from(tiny(true), tiny(false)), at(tiny(false)), at(tiny(true)), at(tiny(false))},
		{at(one), from(tiny(false), huge(false)), from(tiny(false), huge(false)), from(tiny(false), one), from(tiny(false), one)},
		{from(nought, tiny(false)), from(tiny(false), one), from(tiny(false), one), none(), none()},
	} {
		k.check(t, plus)
		k.turned(true, true, true).check(t, plus)
		k.turned(false, false, true).check(t, less)
		k.turned(true, true, false).check(t, less)
	}
}

// TestSecondIsNarrowedByWhatIsLeft has sums that are rounded, so that it tells which operand is narrowed first, and by
// what the second one is.
func TestSecondIsNarrowedByWhatIsLeft(t *testing.T) { // P10.1
	plus, less := ofTwo()[0], ofTwo()[1]
	// 1 less the bit is rounded up to 1, but 1 less 1 is nought.
	known{at(one), at(one), at(bit), at(one), none()}.check(t, plus)
	known{at(one), at(one), at(bit), at(one), none()}.check(t, less)
	// Nothing is left of the first one, where the second one would be left by it as it was.
	known{at(one), at(bit), at(one), none(), none()}.check(t, plus)
	known{at(one), at(bit), at(minus(one)), none(), none()}.check(t, less)
}
