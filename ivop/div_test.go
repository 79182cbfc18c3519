package ivop_test

import (
	"fmt"
	"testing"

	"pelorus/api"
	"pelorus/ivop"
	"pelorus/num"
	"pelorus/sample"
)

// quotients are two intervals, and what is made of them.
type quotients []struct{ a, b, want api.Iv }

// check holds quotients, and those of the opposites.
func (l quotients) check(t *testing.T) {
	t.Helper()
	for _, c := range l {
		what := fmt.Sprintf("Div of %v and %v", c.a, c.b)
		expect(t, what, ivop.Div(c.a, c.b), c.want)
		expect(t, what+", the first one's opposite", ivop.Div(opposite(c.a), c.b), opposite(c.want))
		expect(t, what+", the second one's opposite", ivop.Div(c.a, opposite(c.b)), opposite(c.want))
		expect(t, what+", both opposites", ivop.Div(opposite(c.a), opposite(c.b)), c.want)
	}
}

func TestDivByNought(t *testing.T) { // P9.3
	for _, a := range append(sample.Ivs(), sample.IvMayNot()...) {
		expect(t, fmt.Sprint("Div by nought of ", a), ivop.Div(a, api.Iv{}), none())
	}
}

func TestDivByWhatHasNoNought(t *testing.T) { // P9.3
	half := power(-1)
	quotients{
		{span(4, 8), span(2, 4), span(1, 4)}, {span(4, 8), span(-4, -2), span(-4, -1)}, {span(-8, -4), span(-4, -2), span(1, 4)},
		{span(-4, 8), span(2, 4), span(-2, 4)}, {span(-4, 8), span(-4, -2), span(-4, 2)}, {span(-8, 4), span(2, 4), span(-4, 2)},
		{span(0, 8), span(2, 4), span(0, 4)}, {span(-8, 0), span(2, 4), span(-4, 0)}, {api.Iv{}, span(1, 2), api.Iv{}},
		{span(6, 6), span(3, 3), span(2, 2)}, {span(1, 1), span(2, 4), from(power(-2), half)},

		// Infinite ends in both places.
		{on(one), on(one), on(nought)}, {span(1, 2), on(one), span(0, 2)}, {span(-2, 3), on(one), span(-2, 3)},
		{all, span(1, 2), all}, {all, on(one), all}, {api.Iv{}, on(one), api.Iv{}}, {on(one), span(1, 2), on(half)},
		{on(one), span(2, 2), on(half)}, {on(nought), span(2, 3), on(nought)}, {on(minus(one)), span(1, 2), on(minus(one))},
		{on(one), upTo(minus(one)), upTo(nought)}, {upTo(num.Of(3)), span(1, 2), upTo(num.Of(3))}, {on(nought), on(one), on(nought)},
		{on(minus(one)), on(num.Of(2)), on(minus(half))},

		// Rounded to either side, beyond the Huge, and next to nought.
		{span(1, 1), span(3, 3), from(third, over)}, {span(1, 2), span(3, 3), from(third, pos(0xaaaaaaaaaaaaaaab, -64))},
		{span(-1, 1), span(3, 3), from(minus(over), over)}, {span(1, 1), span(1, 3), from(third, one)},
		{at(huge(false)), at(half), on(huge(false))}, {at(huge(false)), at(below), on(huge(false))},
		{from(huge(true), huge(false)), at(half), all}, {at(huge(false)), at(tiny(false)), on(huge(false))},
		{at(tiny(false)), span(2, 2), from(nought, tiny(false))}, {at(tiny(true)), span(2, 2), from(tiny(true), nought)},
		{at(one), at(huge(false)), from(nought, tiny(false))}, {at(one), on(huge(false)), from(nought, tiny(false))},
		{span(-1, 1), on(huge(false)), from(tiny(true), tiny(false))}, {at(tiny(false)), from(tiny(false), huge(false)), span(0, 1)},
		{at(one), from(tiny(false), one), from(one, power(maxE-63))},

		{none(), span(1, 2), none()}, {none(), on(one), none()},
	}.check(t)
}

func TestDivByNoughtOnAnEdge(t *testing.T) { // P9.3
	quotients{
		{span(4, 8), span(0, 2), on(num.Of(2))}, {span(4, 8), span(-2, 0), upTo(num.Of(-2))}, {span(1, 2), span(0, 4), on(power(-2))},
		{span(-8, -4), span(0, 2), upTo(num.Of(-2))}, {span(-8, -4), span(-2, 0), on(num.Of(2))}, {span(4, 4), span(0, 2), on(num.Of(2))},

		// Infinite ends in both places.
		{on(one), span(0, 2), on(power(-1))}, {span(1, 2), from(nought, inf(false)), on(nought)}, {on(one), on(nought), on(nought)},
		{upTo(minus(one)), span(0, 2), upTo(minus(power(-1)))}, {span(-2, -1), on(nought), upTo(nought)},
		{upTo(minus(one)), upTo(nought), on(nought)}, {span(1, 2), upTo(nought), upTo(nought)},

		// q is rounded away from the quotients, beyond the Huge and next to nought, too.
		{span(1, 1), span(0, 3), on(third)}, {span(1, 1), span(-3, 0), upTo(minus(third))}, {span(-1, -1), span(0, 3), upTo(minus(third))},
		{span(-1, -1), span(-3, 0), on(third)}, {span(2, 5), span(0, 3), on(pos(0xaaaaaaaaaaaaaaaa, -64))},
		{at(huge(false)), from(nought, power(-1)), on(huge(false))}, {at(huge(false)), from(minus(power(-1)), nought), upTo(huge(true))},
		{from(tiny(false), one), span(0, 2), on(nought)}, {from(tiny(false), one), span(-2, 0), upTo(nought)},
		{at(one), from(nought, huge(false)), on(nought)}, {at(one), from(nought, tiny(false)), on(power(maxE - 63))},
		{at(tiny(false)), from(nought, tiny(false)), on(one)}, {on(huge(false)), from(nought, one), on(huge(false))},

		{none(), span(0, 2), none()}, {none(), on(nought), none()},
	}.check(t)
}

func TestDivByBothSidesOfNought(t *testing.T) { // P9.3
	l := []api.Iv{span(-1, 1), span(-1, 2), all, from(tiny(true), tiny(false)), from(huge(true), tiny(false)), on(minus(one)), upTo(one)}
	for _, b := range l {
		for _, a := range sample.Ivs() {
			want := all
			if a.Empty {
				want = none()
			}
			expect(t, fmt.Sprintf("Div of %v and %v", a, b), ivop.Div(a, b), want)
		}
	}
}

func TestDivOfNoughtByNoughtOnAnEdge(t *testing.T) { // P9.3
	quotients{
		{span(0, 8), span(0, 1), all}, {span(-8, 0), span(0, 1), all}, {span(-8, 8), span(0, 1), all}, {api.Iv{}, span(0, 1), all},
		{api.Iv{}, on(nought), all}, {on(nought), on(nought), all}, {all, span(0, 1), all}, {all, on(nought), all},
		{from(nought, tiny(false)), from(nought, huge(false)), all}, {on(nought), span(0, 1), all}, {upTo(nought), on(nought), all},
	}.check(t)
}
