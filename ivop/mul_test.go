package ivop_test

import (
	"fmt"
	"testing"

	"pelorus/api"
	"pelorus/ivop"
	"pelorus/num"
)

// checkMul holds a product, that of the two in the other order, and those of their opposites.
func checkMul(t *testing.T, a, b, want api.Iv) {
	t.Helper()
	what := fmt.Sprintf("Mul of %v and %v", a, b)
	expect(t, what, ivop.Mul(a, b), want)
	expect(t, what+", the other way round", ivop.Mul(b, a), want)
	expect(t, what+", the first one's opposite", ivop.Mul(opposite(a), b), opposite(want))
	expect(t, what+", the second one's opposite", ivop.Mul(a, opposite(b)), opposite(want))
	expect(t, what+", both opposites", ivop.Mul(opposite(a), opposite(b)), want)
}

func TestMul(t *testing.T) { // P9.2
	for _, c := range []struct{ a, b, want api.Iv }{
		// Below, above and around nought.
		{span(2, 3), span(4, 5), span(8, 15)}, {span(-3, -2), span(4, 5), span(-15, -8)}, {span(-3, -2), span(-5, -4), span(8, 15)},
		{span(-1, 2), span(3, 4), span(-4, 8)}, {span(-2, 1), span(3, 4), span(-8, 4)}, {span(-1, 2), span(-4, -3), span(-8, 4)},
		{span(-2, 3), span(-5, 4), span(-15, 12)}, {span(-3, 2), span(-5, 4), span(-12, 15)}, {span(-4, 1), span(-1, 5), span(-20, 5)},
		{span(-1, 1), span(-1, 1), span(-1, 1)}, {span(2, 2), span(3, 3), span(6, 6)}, {span(2, 2), span(-3, 4), span(-6, 8)},

		// Nought on an edge, or alone.
		{span(0, 2), span(3, 4), span(0, 8)}, {span(-2, 0), span(3, 4), span(-8, 0)}, {span(0, 2), span(0, 3), span(0, 6)},
		{span(-2, 0), span(0, 3), span(-6, 0)}, {span(-2, 0), span(-3, 0), span(0, 6)}, {span(0, 2), span(-1, 3), span(-2, 6)},
		{api.Iv{}, span(-1, 3), api.Iv{}}, {api.Iv{}, api.Iv{}, api.Iv{}}, {api.Iv{}, span(2, 3), api.Iv{}},
		{api.Iv{}, all, api.Iv{}}, {api.Iv{}, on(one), api.Iv{}}, {api.Iv{}, upTo(one), api.Iv{}}, {api.Iv{}, on(nought), api.Iv{}},

		// Infinite ends.
		{span(0, 1), on(one), on(nought)}, {span(0, 1), all, all}, {span(-1, 0), on(one), upTo(nought)}, {span(-1, 1), on(one), all},
		{on(one), on(one), on(one)}, {on(num.Of(2)), on(num.Of(3)), on(num.Of(6))}, {on(one), upTo(minus(one)), upTo(minus(one))},
		{on(num.Of(-1)), span(2, 3), on(num.Of(-3))}, {on(num.Of(-1)), span(-3, -2), upTo(num.Of(3))}, {on(minus(one)), upTo(one), all},
		{on(nought), on(nought), on(nought)}, {on(nought), upTo(nought), upTo(nought)}, {all, span(2, 3), all}, {all, all, all},
		{on(num.Of(-2)), on(num.Of(3)), all},

		// Rounded to either side.
		{at(next), at(next), from(pos(high+2, -63), pos(high+3, -63))}, {at(below), at(below), from(pos(full-1, -64), below)},
		{from(one, next), from(one, next), from(one, pos(high+3, -63))}, {from(below, one), from(below, one), from(pos(full-1, -64), one)},
		{from(minus(next), next), at(next), from(minus(pos(high+3, -63)), pos(high+3, -63))},
		{at(third), at(num.Of(3)), at(below)}, {from(third, over), at(num.Of(3)), from(below, next)},
		{at(over), at(num.Of(3)), from(one, next)},

		// Beyond the Huge, and next to nought.
		{at(huge(false)), at(num.Of(2)), on(huge(false))}, {at(huge(false)), at(next), on(huge(false))},
		{at(huge(true)), at(huge(true)), on(huge(false))}, {from(huge(true), huge(false)), at(num.Of(2)), all},
		{span(1, 2), at(huge(false)), on(huge(false))}, {at(power(maxE)), at(power(63)), at(pos(high, maxE))},
		{at(power(maxE)), at(power(64)), on(huge(false))}, {at(huge(false)), on(one), on(huge(false))},
		{at(tiny(false)), at(power(-1)), from(nought, tiny(false))}, {at(tiny(false)), at(tiny(true)), from(tiny(true), nought)},
		{from(tiny(true), tiny(false)), at(tiny(false)), from(tiny(true), tiny(false))},
		{from(tiny(false), huge(false)), from(tiny(false), huge(false)), on(nought)},
		{at(tiny(false)), span(1, 2), from(tiny(false), pos(high, minE+1))},

		{none(), span(0, 1), none()}, {none(), api.Iv{}, none()}, {none(), all, none()}, {none(), none(), none()},
	} {
		checkMul(t, c.a, c.b, c.want)
	}
}
