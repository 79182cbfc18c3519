package box_test

import (
	"testing"

	"pelorus/api"
	"pelorus/box"
	"pelorus/num"
	"pelorus/sample"
)

// sets are two boxes with what both have, and the least one that has both.
func sets() []struct{ a, b, meet, hull []api.Iv } {
	two, three := of(span(0, 2), span(0, 1)), of(span(0, 2), span(0, 1), span(5, 9))
	below, above := from(inf(true), num.Of(2)), from(num.Of(1), inf(false))
	return []struct{ a, b, meet, hull []api.Iv }{
		{two, of(span(1, 3), span(2, 3)), nones(2), of(span(0, 3), span(0, 3))},
		{two, of(span(1, 3), span(1, 3)), of(span(1, 2), span(1, 1)), of(span(0, 3), span(0, 3))}, {two, two, two, two},
		{two, of(span(1, 1), all), of(span(1, 1), span(0, 1)), of(span(0, 2), all)},
		{of(below, above), of(above, below), of(span(1, 2), span(1, 2)), of(all, all)},
		{of(below), of(above), of(span(1, 2)), of(all)}, {of(span(0, 1)), of(span(3, 4)), nones(1), of(span(0, 4))},
		{of(api.Iv{}), of(api.Iv{}), of(api.Iv{}), of(api.Iv{})},
		// Nothing in common in one place alone.
		{three, with(three, span(3, 4), 0), nones(3), with(three, span(0, 4), 0)},
		{three, with(three, span(-2, -1), 1), nones(3), with(three, span(-2, 1), 1)},
		{three, with(three, span(10, 11), 2), nones(3), with(three, span(5, 11), 2)},
		{three, with(three, from(num.Next(num.Of(9), true), num.Of(11)), 2), nones(3), with(three, span(5, 11), 2)},
		{of(from(huge(true), tiny(true)), all), of(from(tiny(false), huge(false)), all), nones(2), of(from(huge(true), huge(false)), all)},
		// One of both empty, and both.
		{three, nones(3), nones(3), three}, {nones(3), nones(3), nones(3), nones(3)}, {of(none()), of(all), of(none()), of(all)},
		{three, of(none(), span(-9, 9), span(-9, 9)), nones(3), three},
		{three, of(span(-9, 9), none(), span(-9, 9)), nones(3), three},
		{three, of(span(-9, 9), span(-9, 9), none()), nones(3), three}, {three, of(all, span(1, 0), all), nones(3), three},
		{of(span(0, 1), none()), of(none(), span(0, 1)), nones(2), nones(2)},
		{of(span(0, 1), none()), of(span(0, 1), none()), nones(2), nones(2)},
		{of(span(0, 1), span(3, 2)), of(none(), span(0, 1)), nones(2), nones(2)},
		// Not of the same dimensions.
		{two, three, nil, nil}, {nil, two, nil, nil}, {nones(2), three, nil, nil}, {two, nones(3), nil, nil}, {nones(2), nones(3), nil, nil},
		{of(all), nil, nil, nil}, {of(none()), nil, nil, nil}, {of(all), of(all, none()), nil, nil}, {long(16), long(17), nil, nil},
		{nil, []api.Iv{}, nil, nil},
	}
}

func TestMeetAndHull(t *testing.T) { // P14.3
	for _, c := range sets() {
		expect(t, "Meet(%v, %v)", box.Meet(c.a, c.b), c.meet, c.a, c.b)
		expect(t, "Meet(%v, %v)", box.Meet(c.b, c.a), c.meet, c.b, c.a)
		expect(t, "Hull(%v, %v)", box.Hull(c.a, c.b), c.hull, c.a, c.b)
		expect(t, "Hull(%v, %v)", box.Hull(c.b, c.a), c.hull, c.b, c.a)
	}
}

// checkSets has the promise to the letter.
func checkSets(t *testing.T, a, b []api.Iv) {
	t.Helper()
	expect(t, "Meet(%v, %v)", box.Meet(a, b), meet(a, b), a, b)
	expect(t, "Hull(%v, %v)", box.Hull(a, b), hull(a, b), a, b)
}

func TestMeetAndHullAsTold(t *testing.T) { // P14.3
	l := fulls()
	for _, a := range l {
		expect(t, "Meet with itself", box.Meet(a, a), a)
		expect(t, "Hull with itself", box.Hull(a, a), a)
		for _, b := range l {
			checkSets(t, a, b)
		}
	}
	for _, c := range chance(5, 3000) {
		a, b := c[0], c[1]
		checkSets(t, a, b)
	}
}

func TestMeetAndHullWithEmpty(t *testing.T) { // P14.3
	for _, a := range few() {
		for _, b := range few() {
			same := len(a) == len(b)
			for _, e := range hollows(a) {
				gone, left := nones(len(a)), b
				if !same {
					gone, left = nil, nil
				}
				expect(t, "Meet(%v, %v)", box.Meet(e, b), gone, e, b)
				expect(t, "Meet(%v, %v)", box.Meet(b, e), gone, b, e)
				expect(t, "Hull(%v, %v)", box.Hull(e, b), left, e, b)
				expect(t, "Hull(%v, %v)", box.Hull(b, e), left, b, e)
				for _, f := range hollows(b) {
					expect(t, "Meet(%v, %v)", box.Meet(e, f), gone, e, f)
					expect(t, "Hull(%v, %v)", box.Hull(e, f), gone, e, f)
				}
			}
		}
	}
}

func TestMeetAndHullOfWhatMayNotBe(t *testing.T) { // P14.3
	b := of(span(0, 1), all, span(-3, 3))
	for _, bad := range sample.IvMayNot() {
		for i := range b {
			e := with(of(all, all, all), bad, i)
			expect(t, "Meet", box.Meet(e, b), nones(3))
			expect(t, "Meet", box.Meet(b, e), nones(3))
			expect(t, "Hull", box.Hull(e, b), b)
			expect(t, "Hull", box.Hull(b, e), b)
			expect(t, "Hull", box.Hull(e, e), nones(3))
		}
	}
}

// points are points around, in and beside boxes of so many dimensions.
func points(dims int) [][]api.Num {
	out := [][]api.Num{nil}
	for range dims {
		var more [][]api.Num
		for _, p := range out {
			for _, n := range at(num.Of(-1), nought, power(-1), num.Of(1), num.Next(num.Of(1), true), num.Of(2), num.Of(3), huge(false)) {
				more = append(more, append(p[:len(p):len(p)], n))
			}
		}
		out = more
	}
	return out
}

// TestPoints has a point in what two have just if it is in both; the hull has what either has.
func TestPoints(t *testing.T) { // P14.5
	for _, a := range few() {
		for _, b := range few() {
			if len(a) != len(b) || len(a) > 3 {
				continue
			}
			both, either := box.Meet(a, b), box.Hull(a, b)
			for _, p := range points(len(a)) {
				in, also := box.Has(a, p), box.Has(b, p)
				expectIs(t, "what %v and %v have, with %v", box.Has(both, p), in && also, a, b, p)
				if (in || also) && !box.Has(either, p) {
					t.Errorf("Hull(%v, %v): %v: without %v", a, b, either, p)
				}
			}
			for _, e := range hollows(a) {
				for _, p := range points(len(a)) {
					expectIs(t, "what %v and %v have", box.Has(box.Meet(e, b), p), false, e, b)
				}
			}
		}
	}
}
