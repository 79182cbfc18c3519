package sample_test

import (
	"slices"
	"testing"

	"pelorus/num"
	"pelorus/sample"
)

func TestFloatsRise(t *testing.T) {
	row := sample.Row()
	for i, a := range row[1:] {
		if sample.Float(row[i]).Cmp(sample.Float(a)) >= 0 || num.Cmp(row[i], a) >= 0 {
			t.Errorf("%v, %v do not rise", row[i], a)
		}
	}
}

func TestWhichIntervalsMayBe(t *testing.T) {
	for _, x := range slices.Concat(sample.Ivs(), sample.FewIvs()) {
		if !sample.IvMayBe(x) {
			t.Errorf("%v may be", x)
		}
	}
	for _, x := range sample.IvMayNot() {
		if sample.IvMayBe(x) {
			t.Errorf("%v may not be", x)
		}
	}
	if all, few := sample.Ivs(), sample.FewIvs(); len(all) != 65 || len(few) != 15 {
		t.Errorf("%d, %d intervals", len(all), len(few))
	}
}
