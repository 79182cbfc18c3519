package box_test

import (
	"slices"
	"testing"

	"pelorus/api"
	"pelorus/box"
	"pelorus/num"
	"pelorus/sample"
)

func TestOfNoDimensions(t *testing.T) { // P14.1 to P14.4
	for _, b := range [][]api.Iv{nil, {}} {
		expect(t, "Fair", box.Fair(b), nil)
		expectIs(t, "Empty", box.Empty(b), false)
		expectIs(t, "Has no number", box.Has(b, nil), true)
		expectIs(t, "Has no number of a list", box.Has(b, at()), true)
		expectIs(t, "Has a number", box.Has(b, at(nought)), false)
		for _, a := range [][]api.Iv{nil, {}} {
			expectIs(t, "Within", box.Within(a, b), true)
			expect(t, "Meet", box.Meet(a, b), nil)
			expect(t, "Hull", box.Hull(a, b), nil)
		}
		if got := box.Widest(b); got != -1 {
			t.Errorf("Widest: %d", got)
		}
		for _, i := range []int{-1, 0, 1} {
			low, up := box.Split(b, i)
			expect(t, "Split, below", low, nil)
			expect(t, "Split, above", up, nil)
		}
	}
}

func TestFairAndEmpty(t *testing.T) { // P14.1
	for _, b := range fulls() {
		expectIs(t, "Empty of %v", box.Empty(b), false, b)
		expect(t, "Fair", box.Fair(b), b)
		for _, e := range hollows(b) {
			expectIs(t, "Empty of %v", box.Empty(e), true, e)
			expect(t, "Fair of %v", box.Fair(e), nones(len(b)), e)
		}
	}
	expect(t, "Fair of one that is empty in the midst", box.Fair(of(span(0, 1), none(), all)), of(none(), none(), none()))
}

func TestFairOfWhatMayNotBe(t *testing.T) { // P14.1
	for _, bad := range sample.IvMayNot() {
		for i := range 3 {
			b := with(of(span(0, 1), all, api.Iv{}), bad, i)
			expectIs(t, "Empty of %v", box.Empty(b), true, b)
			expect(t, "Fair of %v", box.Fair(b), of(none(), none(), none()), b)
		}
		expectIs(t, "Empty", box.Empty(of(bad)), true)
		expect(t, "Fair", box.Fair(of(bad)), of(none()))
	}
}

func TestWidest(t *testing.T) { // P14.4
	one, next, above := num.Of(1), sample.Pos(high+1, -63), sample.Pos(high+2, -63)
	for _, c := range []struct {
		b    []api.Iv
		want int
	}{
		{of(span(0, 3), span(0, 1), span(5, 6)), 0}, {of(span(0, 1), span(-3, 0), span(5, 6)), 1},
		{of(span(0, 1), span(5, 6), span(-1, 2)), 2}, {of(span(7, 7), span(0, 1)), 1}, {of(span(0, 1)), 0},
		// As wide as each other.
		{of(span(0, 3), span(0, 3)), 0}, {of(span(0, 3), span(-2, 1), span(4, 7)), 0},
		{of(span(0, 1), span(0, 3), span(4, 7)), 1},
		{of(span(0, 3), span(0, 1), span(4, 7)), 0}, {of(span(0, 1), span(4, 7), span(0, 2), span(-3, 0)), 1},
		// So wide that no number is.
		{of(span(0, 1), all), 1}, {of(all, all), 0},
		{of(span(0, 1), from(num.Of(5), inf(false)), from(inf(true), num.Of(5)), all), 1},
		{of(from(nought, huge(false)), from(huge(true), huge(false)), all), 1},
		{of(from(nought, huge(false)), from(tiny(true), huge(false))), 1},
		{of(from(nought, huge(false)), from(tiny(false), huge(false))), 0}, // the width of the second is rounded up to the first's
		{of(from(nought, sample.Pos(high, maxE)), from(minus(sample.Pos(high, maxE)), nought), from(nought, huge(false))), 2},
		// Points.
		{of(span(7, 7)), 0}, {of(span(7, 7), api.Iv{}, span(-2, -2)), 0},
		{of(span(7, 7), api.Iv{}, from(nought, tiny(false))), 2},
		{of(from(huge(false), huge(false)), from(tiny(true), nought), from(nought, tiny(false))), 1},
		// Neighbours, and what is wider by a last part alone.
		{of(from(one, next), from(one, above)), 1}, {of(from(one, next), from(next, above)), 0},
		{of(from(nought, one), from(nought, next), from(nought, above)), 2},
		{of(from(nought, above), from(nought, next), from(nought, one)), 0},
	} {
		if got := box.Widest(c.b); got != c.want {
			t.Errorf("Widest(%v): %d", c.b, got)
		}
	}
	if got := box.Widest(long(1000)); got != 999 {
		t.Errorf("Widest of many: %d", got)
	}
	wide := slices.Concat(long(1000), long(1000))
	if got := box.Widest(wide); got != 999 {
		t.Errorf("Widest of twice as many: %d", got)
	}
}

func TestWidestAsTold(t *testing.T) { // P14.4
	check := func(b []api.Iv) {
		t.Helper()
		if got := box.Widest(b); got != widest(b) {
			t.Errorf("Widest(%v): %d, want %d", b, got, widest(b))
		}
	}
	for _, b := range fulls() {
		check(b)
		for _, e := range hollows(b) {
			if got := box.Widest(e); got != -1 {
				t.Errorf("Widest(%v): %d", e, got)
			}
		}
		for i := range b { // the widest in each place
			check(with(b, all, i))
		}
	}
	for _, c := range chance(3, 3000) {
		a, b := c[0], c[1]
		check(a)
		check(append(a, b...))
	}
}
