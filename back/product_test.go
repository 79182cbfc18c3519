package back_test

import (
	"testing"

	"pelorus/api"
	"pelorus/num"
	"pelorus/sample"
)

// checkTurned holds what a call leaves, and what it leaves of the opposites: of two of the three the opposites are made
// by the same way.
func checkTurned(t *testing.T, c call, l []known) {
	t.Helper()
	for _, k := range l {
		k.check(t, c)
		k.turned(true, true, false).check(t, c)
		k.turned(true, false, true).check(t, c)
		k.turned(false, true, true).check(t, c)
	}
}

func TestTimes(t *testing.T) { // P10.2
	half := power(-1)
	checkTurned(t, ofTwo()[2], []known{
		// Without nought.
		{span(6, 6), span(1, 10), span(2, 3), span(2, 3), span(2, 3)}, {span(4, 8), span(1, 8), span(1, 8), span(1, 8), span(1, 8)},
		{span(4, 8), span(2, 9), span(4, 4), span(2, 2), span(4, 4)}, {span(4, 8), span(4, 4), span(1, 9), span(4, 4), span(1, 2)},
		{span(6, 7), span(1, 2), span(1, 2), none(), none()}, {span(-8, -4), span(1, 8), span(1, 8), none(), none()},

		// Z and y both have nought.
		{span(-1, 1), span(5, 6), span(-4, 4), span(5, 6), from(minus(pos(0xcccccccccccccccd, -66)), pos(0xcccccccccccccccd, -66))},
		{span(-1, 1), span(-5, 6), span(-2, 3), span(-5, 6), span(-2, 3)}, {span(-1, 1), span(1, 2), span(-4, 4), span(1, 2), span(-1, 1)},
		{span(0, 4), span(2, 2), span(0, 10), span(2, 2), span(0, 2)}, {span(0, 4), span(-9, 9), span(0, 1), span(-9, 9), span(0, 1)},
		{api.Iv{}, span(1, 2), span(0, 4), span(1, 2), api.Iv{}}, {api.Iv{}, span(0, 2), span(0, 4), span(0, 2), span(0, 4)},
		{api.Iv{}, span(5, 6), api.Iv{}, span(5, 6), api.Iv{}}, {api.Iv{}, api.Iv{}, api.Iv{}, api.Iv{}, api.Iv{}},
		{span(-1, 1), span(5, 6), api.Iv{}, span(5, 6), api.Iv{}}, {span(-1, 1), none(), span(-1, 1), none(), none()},

		// One of them alone has nought.
		{span(0, 4), span(-10, 10), span(2, 4), span(0, 2), span(2, 4)}, {span(-4, 4), span(1, 10), span(2, 4), span(1, 2), span(2, 4)},
		{span(-4, 4), span(3, 10), span(2, 4), none(), none()}, {api.Iv{}, span(1, 2), span(3, 4), none(), none()},
		{api.Iv{}, span(0, 2), span(3, 4), api.Iv{}, span(3, 4)}, {api.Iv{}, api.Iv{}, span(3, 4), api.Iv{}, span(3, 4)},
		{span(2, 4), span(1, 2), span(-1, 10), span(1, 2), span(1, 4)}, {span(2, 4), span(-8, 2), span(-1, 1), span(-8, 2), span(-1, 1)},
		{span(6, 6), span(0, 10), span(2, 3), span(2, 3), span(2, 3)}, {span(1, 2), api.Iv{}, span(1, 2), none(), none()},
		{span(1, 2), api.Iv{}, span(-1, 1), api.Iv{}, none()}, {span(1, 2), api.Iv{}, span(0, 1), none(), none()},

		// Nought is on an edge of y.
		{span(2, 4), span(-5, 4), span(0, 2), span(1, 4), from(half, num.Of(2))}, {span(2, 4), span(-4, 5), span(-2, 0), span(-4, -1), from(num.Of(-2), minus(half))},
		{span(2, 4), span(-5, 0), span(0, 2), none(), none()}, {span(1, 4), span(0, 1), span(0, 2), from(half, one), span(1, 2)},

		// Y is nought alone, and z is without it.
		{span(1, 2), span(1, 2), api.Iv{}, none(), none()}, {span(-2, -1), all, api.Iv{}, none(), none()}, {on(one), api.Iv{}, api.Iv{}, none(), none()},

		// Infinite ends.
		{on(one), on(nought), span(1, 2), on(half), span(1, 2)}, {on(num.Of(4)), span(1, 2), all, span(1, 2), on(num.Of(2))},
		{at(one), on(one), on(one), at(one), at(one)}, {span(1, 4), all, on(num.Of(2)), span(0, 2), on(num.Of(2))},
		{span(1, 4), all, all, all, all}, {all, all, all, all, all}, {all, span(1, 2), span(3, 4), span(1, 2), span(3, 4)},
		{on(one), on(nought), on(nought), on(nought), on(nought)}, {on(one), on(nought), upTo(nought), api.Iv{}, none()},
		{span(1, 4), span(-1, 0), on(one), api.Iv{}, none()}, {upTo(num.Of(-2)), span(1, 2), span(-8, 8), span(1, 2), span(-8, -1)},

		// Ends rounded to either side, the Huge, and the Tiny.
		{at(one), all, span(3, 3), from(third, over), span(3, 3)}, {at(one), on(over), span(3, 3), at(over), span(3, 3)},
		{at(one), span(3, 3), all, span(3, 3), from(third, over)}, {at(one), upTo(pos(0xaaaaaaaaaaaaaaa9, -65)), span(3, 3), none(), none()},
		{at(huge(false)), all, at(half), on(huge(false)), at(half)}, {at(huge(false)), from(huge(true), huge(false)), at(half), at(huge(false)), none()},
		{at(huge(false)), span(1, 5), at(half), none(), none()}, {at(tiny(false)), all, span(2, 2), from(nought, tiny(false)), span(2, 2)},
		{at(one), all, at(huge(false)), from(nought, tiny(false)), at(huge(false))}, {at(one), all, from(nought, tiny(false)), on(power(maxE - 63)), from(nought, tiny(false))},
	})
}

// TestNothingIsLeftOfTheSecondAlone has a quotient rounded up, and by it a quotient that falls short of the second one,
// so that it tells which one is narrowed first.
func TestNothingIsLeftOfTheSecondAlone(t *testing.T) { // P10.2
	// M full by M full-2 is hardly more than 1 and 2^-63, and is rounded up to 1 and 2^-62, by which it is full-3 at most.
	z, x, y := at(pos(full, -63)), at(pos(high+2, -63)), at(pos(full-2, -63))
	known{z, x, y, x, none()}.check(t, ofTwo()[2])
	known{z, y, x, none(), none()}.check(t, ofTwo()[2])
}

func TestOver(t *testing.T) { // P10.2
	checkTurned(t, ofTwo()[3], []known{
		// Without nought.
		{span(2, 3), span(0, 100), span(4, 5), span(8, 15), span(4, 5)}, {span(2, 4), span(8, 8), span(1, 100), span(8, 8), span(2, 4)},
		{span(2, 4), span(1, 9), span(1, 2), span(2, 8), span(1, 2)}, {span(2, 3), span(0, 7), span(4, 5), none(), none()},
		{span(2, 2), span(1, 3), span(1, 3), span(2, 3), from(one, pos(3<<62, -63))}, {span(1, 2), span(-4, -3), span(1, 9), none(), none()},

		// Y has nought on an edge, or within.
		{span(2, 3), span(1, 100), span(0, 5), span(1, 15), from(third, num.Of(5))}, {span(2, 4), span(-4, 100), span(0, 5), span(0, 20), span(0, 5)},
		{span(2, 4), span(8, 100), span(0, 5), span(8, 20), span(2, 5)}, {span(2, 4), span(-100, -8), span(0, 5), none(), none()},
		{span(2, 4), span(4, 100), span(-5, 5), span(4, 20), span(1, 5)}, {span(2, 4), span(-2, 2), span(-5, 5), span(-2, 2), span(-1, 1)},
		{span(2, 4), api.Iv{}, span(-5, 5), api.Iv{}, api.Iv{}}, {span(2, 4), span(90, 100), span(-5, 5), none(), none()},

		// Z has nought on an edge, or within, or it is nought alone.
		{span(-1, 1), span(5, 100), span(-10, 10), span(5, 10), span(-10, 10)}, {span(-1, 1), span(-2, 2), span(3, 4), span(-2, 2), span(3, 4)},
		{span(-1, 1), span(5, 100), span(3, 8), span(5, 8), span(3, 8)}, {span(0, 2), span(4, 100), span(-10, 10), span(4, 20), span(2, 10)},
		{span(0, 2), span(-9, 9), span(3, 4), span(0, 8), span(3, 4)}, {span(0, 2), span(-9, -1), span(3, 4), none(), none()},
		{api.Iv{}, span(-1, 1), span(3, 4), api.Iv{}, span(3, 4)}, {api.Iv{}, span(1, 2), span(3, 4), none(), none()},
		{api.Iv{}, api.Iv{}, span(-3, 4), api.Iv{}, span(-3, 4)}, {api.Iv{}, span(0, 1), on(nought), api.Iv{}, on(nought)},
		{span(1, 2), api.Iv{}, span(3, 4), none(), none()}, {none(), span(1, 2), span(-3, 4), none(), none()},

		// Infinite ends.
		{on(one), span(2, 4), on(nought), span(2, 4), span(0, 4)}, {span(2, 2), all, on(one), on(num.Of(2)), on(one)},
		{all, span(1, 2), span(0, 3), span(1, 2), span(0, 3)}, {all, all, all, all, all}, {span(2, 4), all, span(1, 2), span(2, 8), span(1, 2)},
		{span(2, 4), on(num.Of(8)), all, on(num.Of(8)), on(num.Of(2))}, {on(num.Of(2)), span(4, 8), all, span(4, 8), span(0, 4)},
		{on(num.Of(2)), span(-8, 4), on(num.Of(3)), none(), none()}, {upTo(num.Of(-2)), span(-8, 8), on(one), span(-8, -2), span(1, 4)},

		// Ends rounded to either side, the Huge, and the Tiny.
		{span(3, 3), at(one), all, at(one), from(third, over)}, {at(next), all, at(next), from(pos(high+2, -63), pos(high+3, -63)), at(next)},
		{at(over), all, span(3, 3), from(one, next), span(3, 3)}, {at(over), span(1, 9), span(3, 3), from(one, next), span(3, 3)},
		{at(over), from(nought, one), span(3, 3), at(one), span(3, 3)}, {at(third), span(1, 9), span(3, 3), none(), none()},
		{at(huge(false)), all, span(2, 2), on(huge(false)), span(2, 2)}, {at(huge(false)), span(1, 9), all, span(1, 9), from(nought, tiny(false))},
		{at(tiny(false)), all, at(tiny(false)), from(nought, tiny(false)), at(tiny(false))}, {at(tiny(false)), at(one), on(one), at(one), at(power(maxE - 63))},
	})
}

// TestOverByNought holds that by nought nothing is divided, whatever all else is.
func TestOverByNought(t *testing.T) { // P10.2
	l := append(sample.FewIvs(), sample.IvMayNot()[:20]...)
	for _, z := range l {
		for _, x := range l {
			known{z, x, api.Iv{}, none(), none()}.check(t, ofTwo()[3])
		}
	}
}
