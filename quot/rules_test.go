package quot_test

import (
	"slices"
	"testing"

	"pelorus/api"
	"pelorus/num"
	"pelorus/quot"
	"pelorus/sample"
	"pelorus/whole"
)

// all are the answers of Div and Root of two numbers, to one side.
func all(a, b api.Num, up bool) []api.Num {
	r, _ := quot.Root(a, up)
	s, _ := quot.Root(b, up)
	return []api.Num{quot.Div(a, b, up), quot.Div(b, a, up), r, s}
}

// TestMayNotBeIsTakenForNought hands numbers that may not be, and nought in their place, to both calls.
func TestMayNotBeIsTakenForNought(t *testing.T) { // the chapter's Words
	nought := api.Num{}
	check := func(a, b, x, y api.Num) {
		t.Helper()
		for _, up := range []bool{false, true} {
			if got, want := all(a, b, up), all(x, y, up); !slices.Equal(got, want) {
				t.Errorf("of %v and %v: %v, not %v", a, b, got, want)
			}
		}
	}
	for _, bad := range sample.MayNot() {
		if r, is := quot.Root(bad, true); !is || r != nought {
			t.Errorf("Root(%v): %v, %v", bad, r, is)
		}
		for _, n := range sample.Few() {
			check(bad, n, nought, n)
			check(n, bad, n, nought)
		}
		for _, other := range sample.MayNot() {
			check(bad, other, nought, nought)
		}
	}
}

// TestAnswersMayBe holds, too, that no answer to below is above the one up, and that asking again answers the same.
func TestAnswersMayBe(t *testing.T) { // P2, R5
	for _, a := range append(sample.Row(), sample.MayNot()...) {
		for _, b := range sample.Few() {
			lo, hi := all(a, b, false), all(a, b, true)
			for i := range lo {
				if !sample.MayBe(lo[i]) || !sample.MayBe(hi[i]) || num.Cmp(lo[i], hi[i]) > 0 {
					t.Errorf("of %v and %v: %v, %v", a, b, lo[i], hi[i])
				}
			}
			if !slices.Equal(lo, all(a, b, false)) || !slices.Equal(hi, all(a, b, true)) {
				t.Errorf("of %v and %v: otherwise when asked again", a, b)
			}
		}
	}
}

// TestHandedInStaysAsItWas has limbs with room behind them, which a call might write to.
func TestHandedInStaysAsItWas(t *testing.T) { // R3
	roomy := func(l ...uint32) []uint32 { return append(make([]uint32, 0, 200), l...) }
	for _, tens := range []int{-400, -1, 0, 1, 400} {
		m := roomy(3, 0, 7)
		first := quot.From(api.Dec{N: api.Whole{M: m}, Tens: tens}, true)
		checkRoomy(t, m, 3, 0, 7)
		expect(t, "asked again", quot.From(api.Dec{N: api.Whole{M: m}, Tens: tens}, true), first)
	}
	a, b := roomy(1, 2, 3, 4, 0), roomy(5, 6, 0)
	for _, up := range []bool{false, true} {
		x, y := api.Whole{Neg: true, M: a}, api.Whole{M: b}
		expect(t, "asked again", quot.Ratio(x, y, up), quot.Ratio(x, y, up))
		quot.Ratio(y, x, up)
		quot.Ratio(x, whole.From(0), up)
		checkRoomy(t, a, 1, 2, 3, 4, 0)
		checkRoomy(t, b, 5, 6, 0)
	}
}

// checkRoomy fails the test unless limbs are the wanted ones, and the room behind them is empty.
func checkRoomy(t *testing.T, m []uint32, want ...uint32) {
	t.Helper()
	all := m[:cap(m)]
	if !slices.Equal(all[:len(want)], want) || slices.Max(all[len(want):]) != 0 {
		t.Errorf("%v became %v", want, all)
	}
}
