package sample_test

import (
	"math/big"
	"slices"
	"testing"

	"pelorus/api"
	"pelorus/num"
	"pelorus/sample"
)

func TestRowsRise(t *testing.T) {
	row, few := sample.Row(), sample.Few()
	if !slices.IsSortedFunc(row, num.Cmp) || len(row) != 283 {
		t.Errorf("%d in a row, rising: %v", len(row), slices.IsSortedFunc(row, num.Cmp))
	}
	if !slices.IsSortedFunc(few, num.Cmp) || len(few) != 11 {
		t.Errorf("few are %v", few)
	}
}

func TestWhatMayBe(t *testing.T) {
	for _, n := range sample.Row() {
		if !sample.MayBe(n) {
			t.Errorf("%v may be", n)
		}
	}
	for _, n := range sample.MayNot() {
		if sample.MayBe(n) {
			t.Errorf("%v may not be", n)
		}
	}
}

// float is a number as one of the library's, exactly; n may be.
func float(n api.Num) *big.Float {
	out := new(big.Float)
	if n.Kind == api.Inf {
		return out.SetInf(n.Neg)
	}
	out.SetMantExp(new(big.Float).SetUint64(n.M), n.E)
	if n.Neg {
		out.Neg(out)
	}
	return out
}

func TestLessAsTheLibrary(t *testing.T) {
	row := sample.Row()
	for i, a := range row {
		for j, b := range row {
			if got, want := sample.Less(a, b), float(a).Cmp(float(b)) < 0; got != want || want != (i < j) {
				t.Errorf("Less(%v, %v): %v", a, b, got)
			}
		}
	}
}
