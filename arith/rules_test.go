package arith_test

import (
	"slices"
	"testing"

	"pelorus/api"
	"pelorus/arith"
	"pelorus/num"
	"pelorus/sample"
)

// all are the answers of every call of two numbers, to one side.
func all(a, b api.Num, up bool) []api.Num {
	return []api.Num{
		arith.Add(a, b, up), arith.Add(b, a, up), arith.Sub(a, b, up), arith.Sub(b, a, up), arith.Mul(a, b, up), arith.Mul(b, a, up),
		arith.Sum(up, a), arith.Sum(up, a, b), arith.Sum(up, b, a, num.Of(1)), arith.Half(a, up), arith.Half(b, up), arith.Twice(a, up), arith.Twice(b, up),
	}
}

// TestMayNotBeIsTakenForNought hands numbers that may not be, and nought in their place, to every call.
func TestMayNotBeIsTakenForNought(t *testing.T) { // the chapter's Words
	nought := api.Num{}
	check := func(a, b, x, y api.Num) {
		t.Helper()
		for _, up := range []bool{false, true} {
			if got, want := all(a, b, up), all(x, y, up); !slices.Equal(got, want) {
				t.Errorf("of %v and %v: %v, not %v", a, b, got, want)
			}
		}
	}
	for _, bad := range sample.MayNot() {
		for _, n := range sample.Few() {
			check(bad, n, nought, n)
			check(n, bad, n, nought)
		}
		for _, other := range sample.MayNot() {
			check(bad, other, nought, nought)
		}
	}
}

// TestAnswersMayBe holds, too, that no answer to below is above the one up, and that asking again answers the same.
func TestAnswersMayBe(t *testing.T) { // P6.4, R5
	for _, a := range append(sample.Row(), sample.MayNot()...) {
		for _, b := range sample.Few() {
			lo, hi := all(a, b, false), all(a, b, true)
			for i := range lo {
				if !sample.MayBe(lo[i]) || !sample.MayBe(hi[i]) || num.Cmp(lo[i], hi[i]) > 0 {
					t.Errorf("of %v and %v: %v, %v", a, b, lo[i], hi[i])
				}
			}
			if !slices.Equal(lo, all(a, b, false)) || !slices.Equal(hi, all(a, b, true)) {
				t.Errorf("of %v and %v: otherwise when asked again", a, b)
			}
		}
	}
}
