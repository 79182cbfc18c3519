package box_test

import (
	"math"
	"testing"

	"pelorus/api"
	"pelorus/box"
	"pelorus/num"
	"pelorus/sample"
)

func TestSplit(t *testing.T) { // P14.4
	b := of(span(0, 2), span(-2, 6), span(3, 3), all)
	one, next := num.Of(1), sample.Pos(high+1, -63)
	for _, c := range []struct {
		b       []api.Iv
		i       int
		low, up []api.Iv
	}{
		{b, 0, with(b, span(0, 1), 0), with(b, span(1, 2), 0)}, {b, 1, with(b, span(-2, 2), 1), with(b, span(2, 6), 1)},
		{b, 2, b, b}, {b, 3, with(b, from(inf(true), nought), 3), with(b, from(nought, inf(false)), 3)},
		{of(span(0, 1)), 0, of(from(nought, power(-1))), of(from(power(-1), one))},
		// A point, two neighbours, and infinite ends.
		{of(span(7, 7), span(7, 7)), 1, of(span(7, 7), span(7, 7)), of(span(7, 7), span(7, 7))},
		{of(api.Iv{}), 0, of(api.Iv{}), of(api.Iv{})},
		{of(all, from(one, next)), 1, of(all, from(one, one)), of(all, from(one, next))},
		{of(from(minus(next), minus(one)), all), 0, of(from(minus(next), minus(next)), all), of(from(minus(next), minus(one)), all)},
		{of(from(num.Of(5), inf(false))), 0, of(span(5, 5)), of(from(num.Of(5), inf(false)))},
		{of(from(inf(true), num.Of(5))), 0, of(from(inf(true), num.Of(5))), of(span(5, 5))},
		{of(from(huge(true), huge(false))), 0, of(from(huge(true), nought)), of(from(nought, huge(false)))},
		// Empty, in the place or beside it.
		{of(none(), span(0, 2)), 1, nones(2), nones(2)}, {of(none(), span(0, 2)), 0, nones(2), nones(2)},
		{of(span(0, 2), span(1, 0)), 0, nones(2), nones(2)}, {of(span(0, 2), span(1, 0)), 1, nones(2), nones(2)},
		{of(none()), 0, nones(1), nones(1)}, {nones(3), 1, nones(3), nones(3)},
		// No such place.
		{b, -1, nil, nil}, {b, 4, nil, nil}, {b, 5, nil, nil}, {nones(2), 2, nil, nil}, {nones(2), -1, nil, nil},
	} {
		low, up := box.Split(c.b, c.i)
		expect(t, "Split(%v, %d), below", low, c.low, c.b, c.i)
		expect(t, "Split(%v, %d), above", up, c.up, c.b, c.i)
	}
}

// checkSplit has the promise to the letter, and that both halves together have what the box has.
func checkSplit(t *testing.T, b []api.Iv, i int) { // P14.4, P14.5
	t.Helper()
	low, up := box.Split(b, i)
	below, above := split(b, i)
	expect(t, "Split(%v, %d), below", low, below, b, i)
	expect(t, "Split(%v, %d), above", up, above, b, i)
	if i < 0 || i >= len(b) {
		return
	}
	expect(t, "both halves of %v in %d", box.Hull(low, up), fair(b), b, i)
	if len(b) > 3 {
		return
	}
	for _, p := range points(len(b)) {
		expectIs(t, "one of both halves of %v in %d, with %v", box.Has(low, p) || box.Has(up, p), box.Has(b, p), b, i, p)
	}
}

func TestSplitAsTold(t *testing.T) { // P14.4, P14.5
	for _, b := range fulls() {
		for i := range b {
			checkSplit(t, b, i)
		}
		for _, i := range []int{-1, len(b), len(b) + 1, 1 << 32, -1 << 32, math.MaxInt, math.MinInt} {
			checkSplit(t, b, i)
		}
	}
	for _, b := range few() {
		for _, e := range hollows(b) {
			for i := -1; i <= len(e); i++ {
				checkSplit(t, e, i)
			}
		}
	}
}

func TestSplitOfWhatMayNotBe(t *testing.T) { // P14.4
	for _, bad := range sample.IvMayNot() {
		for i := range 3 {
			for j := range 3 {
				low, up := box.Split(with(of(all, all, all), bad, i), j)
				expect(t, "Split, below", low, nones(3))
				expect(t, "Split, above", up, nones(3))
			}
		}
	}
}
