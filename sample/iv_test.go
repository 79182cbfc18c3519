package sample_test

import (
	"slices"
	"testing"

	"pelorus/sample"
)

func TestWhichIntervalsMayBe(t *testing.T) {
	for _, x := range slices.Concat(sample.Ivs(), sample.FewIvs()) {
		if !sample.IvMayBe(x) {
			t.Errorf("%v may be", x)
		}
	}
	for _, x := range sample.IvMayNot() {
		if sample.IvMayBe(x) {
			t.Errorf("%v may not be", x)
		}
	}
	if all, few := sample.Ivs(), sample.FewIvs(); len(all) != 65 || len(few) != 15 {
		t.Errorf("%d, %d intervals", len(all), len(few))
	}
}
