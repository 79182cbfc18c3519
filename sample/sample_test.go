package sample_test

import (
	"slices"
	"testing"

	"pelorus/num"
	"pelorus/sample"
)

func TestRowsRise(t *testing.T) {
	row, few := sample.Row(), sample.Few()
	if !slices.IsSortedFunc(row, num.Cmp) || len(row) != 283 {
		t.Errorf("%d in a row, rising: %v", len(row), slices.IsSortedFunc(row, num.Cmp))
	}
	if !slices.IsSortedFunc(few, num.Cmp) || len(few) != 11 {
		t.Errorf("few are %v", few)
	}
}

func TestWhatMayBe(t *testing.T) {
	for _, n := range sample.Row() {
		if !sample.MayBe(n) {
			t.Errorf("%v may be", n)
		}
	}
	for _, n := range sample.MayNot() {
		if sample.MayBe(n) {
			t.Errorf("%v may not be", n)
		}
	}
}
