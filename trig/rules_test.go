package trig_test

import (
	"math"
	"slices"
	"testing"

	"pelorus/api"
	"pelorus/num"
	"pelorus/sample"
	"pelorus/trig"
)

// TestSeriesSharesNothing has limbs with room behind them, which a call might write to, and writes over each answer.
func TestSeriesSharesNothing(t *testing.T) { // R3, R5
	for _, l := range [][]uint32{
		{}, {0}, {1}, {1, 0, 0}, {7}, {1, 2, 3}, {5, 4, 3, 2, 1, 6}, {0, 0, 0, 0, 0, 0, 1}, {9, 9, 9, 9, 9, 9, 3, 0},
		{0, 0, 0, 0, 0, 0, 4}, {1, 0, 0, 0, 0, 0, 4}, {1, 1, 1, 1, 1, 1, 1, 1, 1},
	} {
		for _, below := range []bool{false, true} {
			room := append(make([]uint32, 0, 64), l...)
			was := slices.Clone(room[:cap(room)])
			m := api.Whole{Neg: below, M: room}
			got := trig.Series(m)
			want := numberOf(t, got)
			got.M = got.M[:cap(got.M)]
			for i := range got.M {
				got.M[i] = 0xdeadbeef
			}
			if !slices.Equal(room[:cap(room)], was) {
				t.Errorf("%v became %v", was, room[:cap(room)])
			}
			if again := numberOf(t, trig.Series(m)); again.Cmp(want) != 0 {
				t.Errorf("Series(%v): %x, then %x", m, want, again)
			}
		}
	}
}

// TestAskedAgain holds that nothing hangs on what was asked before.
func TestAskedAgain(t *testing.T) { // R5
	few := []api.Num{{}, num.Of(1), num.Of(-3), pos(full, -34), power(30), tiny(true), inf(false)}
	ivs := append(sample.FewIvs(), points(1, 2), points(-9, -4), points(0, 7))
	ask := func() []api.Iv {
		var out []api.Iv
		for _, w := range waves() {
			for _, n := range few {
				out = append(out, w.at(n))
			}
			for _, x := range ivs {
				out = append(out, w.of(x))
			}
		}
		return out
	}
	if first, then := ask(), ask(); !slices.Equal(first, then) {
		t.Errorf("%v, then %v", first, then)
	}
}

// TestAnyArguments holds that no call panics, and that all that is answered may be.
func TestAnyArguments(t *testing.T) { // P1, R1
	for _, n := range slices.Concat(sample.Row(), sample.MayNot()) {
		for _, w := range waves() {
			if got := w.at(n); !sample.IvMayBe(got) || got.Empty {
				t.Errorf("%s of %v: %v", w.name, n, got)
			}
		}
	}
	for _, x := range slices.Concat(sample.Ivs(), sample.FewIvs(), sample.IvMayNot()) {
		for _, w := range waves() {
			if got := w.of(x); !sample.IvMayBe(got) {
				t.Errorf("%s of %v: %v", w.name, x, got)
			}
		}
	}
	long := slices.Repeat([]uint32{math.MaxUint32}, 40000)
	for _, m := range []api.Whole{{}, {Neg: true}, {M: []uint32{0}}, {M: long}, {Neg: true, M: long}, {Neg: true, M: make([]uint32, 40000)}} {
		if got := trig.Series(m); got.Neg || len(got.M) != 0 {
			t.Errorf("Series of one of %d limbs: %v", len(m.M), got)
		}
	}
}
