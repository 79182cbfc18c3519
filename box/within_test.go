package box_test

import (
	"slices"
	"testing"

	"pelorus/api"
	"pelorus/box"
	"pelorus/iv"
	"pelorus/num"
	"pelorus/sample"
)

func TestHas(t *testing.T) { // P14.2
	two, b := num.Of(2), of(span(0, 2), span(-3, 1), span(5, 5))
	zero, three, one, five := nought, num.Of(-3), num.Of(1), num.Of(5)
	for _, c := range []struct {
		b    []api.Iv
		p    []api.Num
		want bool
	}{
		{b, at(zero, three, five), true}, {b, at(two, one, five), true}, {b, at(one, zero, five), true},
		// Just beside an end, in one place alone.
		{b, at(tiny(true), zero, five), false}, {b, at(num.Next(two, true), zero, five), false},
		{b, at(one, num.Next(three, false), five), false}, {b, at(one, num.Next(one, true), five), false},
		{b, at(one, zero, num.Next(five, false)), false}, {b, at(one, zero, num.Next(five, true)), false},
		{b, at(tiny(false), num.Next(three, true), five), true},
		{b, at(num.Next(two, false), num.Next(one, false), five), true},
		// Too few, and too many.
		{b, nil, false}, {b, at(one, zero), false}, {b, at(one, zero, five, one), false}, {b, at(one), false},
		{nil, at(one), false}, {of(all), nil, false}, {of(all), at(one, one), false},
		// Infinite ends, and infinite numbers.
		{of(all, all), at(huge(true), huge(false)), true}, {of(all, all), at(inf(false), zero), false},
		{of(all, all), at(zero, inf(true)), false}, {of(all), at(inf(true)), false}, {of(all), at(inf(false)), false},
		{of(from(inf(true), two)), at(two), true}, {of(from(inf(true), two)), at(five), false},
		{of(from(two, inf(false))), at(huge(false)), true}, {of(from(two, inf(false))), at(one), false},
		{of(from(huge(true), huge(false))), at(inf(false)), false},
		// Empty in one place.
		{of(none(), all, all), at(one, one, one), false}, {of(all, none(), all), at(one, one, one), false},
		{of(all, all, none()), at(one, one, one), false}, {of(none()), at(zero), false},
		{of(all, span(1, 0)), at(zero, zero), false}, {of(api.Iv{}), at(zero), true},
	} {
		if got := box.Has(c.b, c.p); got != c.want {
			t.Errorf("Has(%v, %v): %v", c.b, c.p, got)
		}
	}
}

// TestHasWhatMayNotBe has such a number taken for nought, in each place.
func TestHasWhatMayNotBe(t *testing.T) { // P14.2
	one := num.Of(1)
	for _, bad := range sample.MayNot() {
		for i := range 3 {
			p := at(one, one, one)
			p[i] = bad
			expectIs(t, "Has of %v", box.Has(of(span(0, 1), span(-1, 1), span(0, 2)), p), true, p)
			expectIs(t, "Has without nought of %v", box.Has(with(of(span(0, 1), span(-1, 1), span(0, 2)), span(1, 2), i), p), false, p)
		}
	}
	for _, bad := range sample.IvMayNot() {
		for i := range 3 {
			expectIs(t, "Has within %v", box.Has(with(of(all, all, all), bad, i), at(one, nought, one)), false, bad)
		}
	}
}

// corners are points at the ends of a box's intervals and beside them, which it has, and which it has not.
func corners(b []api.Iv) [][]api.Num {
	var middle []api.Num
	for _, x := range b {
		middle = append(middle, iv.Mid(x))
	}
	out := [][]api.Num{middle, middle[:max(len(b)-1, 0)], append(slices.Clone(middle), nought)}
	for i, x := range b {
		for _, n := range at(x.Lo, x.Hi, num.Next(x.Lo, false), num.Next(x.Lo, true), num.Next(x.Hi, false), num.Next(x.Hi, true)) {
			p := slices.Clone(middle)
			p[i] = n
			out = append(out, p)
		}
	}
	return out
}

func TestHasAsTold(t *testing.T) { // P14.2
	for _, b := range fulls() {
		for _, p := range corners(b) {
			expectIs(t, "Has(%v, %v)", box.Has(b, p), has(b, p), b, p)
		}
		for _, e := range hollows(b) {
			for _, p := range corners(b)[:1] {
				expectIs(t, "Has(%v, %v)", box.Has(e, p), false, e, p)
			}
		}
	}
}

func TestWithin(t *testing.T) { // P14.2
	b := of(span(0, 2), span(-3, 1), span(5, 7))
	for _, c := range []struct {
		a, b []api.Iv
		want bool
	}{
		{b, b, true}, {of(span(0, 1), span(-1, 0), span(5, 5)), b, true}, {b, of(all, all, all), true}, {of(all, all, all), b, false},
		// Not within in one place alone.
		{with(b, span(0, 3), 0), b, false}, {with(b, span(-4, 1), 1), b, false}, {with(b, span(5, 8), 2), b, false},
		{with(b, from(tiny(true), num.Of(2)), 0), b, false},
		{with(b, from(num.Of(-3), num.Next(num.Of(1), true)), 1), b, false},
		{with(b, from(num.Next(num.Of(5), false), num.Of(7)), 2), b, false},
		{b, with(b, none(), 0), false}, {b, with(b, none(), 1), false}, {b, with(b, none(), 2), false}, {b, nones(3), false},
		{b, with(b, span(3, 2), 1), false},
		// Empty, though an interval of it is not within.
		{of(all, none(), all), b, true}, {of(none(), all, all), b, true}, {of(all, all, none()), b, true}, {nones(3), b, true},
		{of(span(1, 0), all, all), b, true}, {of(all, all, span(1, 0)), b, true},
		{nones(3), nones(3), true}, {of(all, none(), all), nones(3), true}, {of(all, none()), of(none(), all), true},
		// Not of the same dimensions.
		{b, b[:2], false}, {b[:2], b, false}, {nil, b, false}, {b, nil, false}, {nones(2), b, false}, {nones(3), b[:2], false},
		{nones(1), nil, false}, {nil, nones(1), false}, {nones(2), nones(3), false}, {of(all), of(all, all), false},
		// Of one dimension.
		{of(span(0, 1)), of(span(0, 2)), true}, {of(span(0, 2)), of(span(0, 1)), false}, {of(none()), of(none()), true},
		{of(span(0, 0)), of(none()), false},
	} {
		if got := box.Within(c.a, c.b); got != c.want {
			t.Errorf("Within(%v, %v): %v", c.a, c.b, got)
		}
	}
}

func TestWithinAsTold(t *testing.T) { // P14.2
	l := fulls()
	for _, a := range l {
		expectIs(t, "Within of itself: %v", box.Within(a, a), true, a)
		for _, b := range l {
			expectIs(t, "Within(%v, %v)", box.Within(a, b), within(a, b), a, b)
		}
	}
	for _, a := range few() {
		for _, b := range few() {
			for _, e := range hollows(a) {
				expectIs(t, "Within(%v, %v)", box.Within(e, b), len(a) == len(b), e, b)
				expectIs(t, "Within(%v, %v)", box.Within(b, e), false, b, e)
			}
		}
	}
	for _, c := range chance(4, 5000) {
		a, b := c[0], c[1]
		expectIs(t, "Within(%v, %v)", box.Within(a, b), within(a, b), a, b)
		m := meet(a, b)
		expectIs(t, "Within(%v, %v)", box.Within(m, b), true, m, b)
	}
}
