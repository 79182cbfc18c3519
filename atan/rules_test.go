package atan_test

import (
	"math"
	"slices"
	"testing"

	"pelorus/api"
	"pelorus/atan"
	"pelorus/num"
	"pelorus/sample"
)

// TestSeriesSharesNothing has limbs with room behind them, which a call might write to, and writes over each answer.
func TestSeriesSharesNothing(t *testing.T) { // R3, R5
	for _, l := range [][]uint32{
		{}, {0}, {1}, {1, 0, 0}, {7}, {1, 2, 3}, {5, 4, 3, 2, 1, 6}, {9, 9, 9, 9, 9, 1 << 31}, {0, 0, 0, 0, 0, 0, 1},
		{0, 0, 0, 0, 0, 0, 1, 0, 0}, {1, 0, 0, 0, 0, 0, 1}, {1, 1, 1, 1, 1, 1, 1, 1, 1},
	} {
		for _, below := range []bool{false, true} {
			room := append(make([]uint32, 0, 64), l...)
			was := slices.Clone(room[:cap(room)])
			u := api.Whole{Neg: below, M: room}
			got := atan.Series(u)
			want := numberOf(t, got)
			got.M = got.M[:cap(got.M)]
			for i := range got.M {
				got.M[i] = 0xdeadbeef
			}
			if !slices.Equal(room[:cap(room)], was) {
				t.Errorf("%v became %v", was, room[:cap(room)])
			}
			if again := numberOf(t, atan.Series(u)); again.Cmp(want) != 0 {
				t.Errorf("Series(%v): %x, then %x", u, want, again)
			}
		}
	}
}

// TestAskedAgain holds that nothing hangs on what was asked before.
func TestAskedAgain(t *testing.T) { // R5
	few := append(sample.Few(), power(-1), pos(full, -64), num.Of(-3), pos(high+1, -63))
	ask := func() []api.Iv {
		var out []api.Iv
		for _, n := range few {
			out = append(out, atan.Atan(n))
			for _, x := range few {
				angle, _ := atan.Angle(n, x)
				out = append(out, angle)
			}
		}
		for _, x := range sample.FewIvs() {
			out = append(out, atan.AtanOf(x))
		}
		return out
	}
	if first, then := ask(), ask(); !slices.Equal(first, then) {
		t.Errorf("%v, then %v", first, then)
	}
}

// TestAnyArguments holds that no call panics, and that all that is answered may be.
func TestAnyArguments(t *testing.T) { // P1, R1
	few := sample.Few()
	for _, n := range slices.Concat(sample.Row(), sample.MayNot()) {
		if got := atan.Atan(n); !sample.IvMayBe(got) || got.Empty {
			t.Errorf("Atan(%v): %v", n, got)
		}
		for _, x := range few {
			for _, p := range []point{{n, x}, {x, n}} {
				if got, is := atan.Angle(p.y, p.x); !sample.IvMayBe(got) || got.Empty == is || is != isPoint(p.y, p.x) {
					t.Errorf("Angle(%v, %v): %v, %v", p.y, p.x, got, is)
				}
			}
		}
	}
	for _, x := range slices.Concat(sample.Ivs(), sample.FewIvs(), sample.IvMayNot()) {
		if got := atan.AtanOf(x); !sample.IvMayBe(got) {
			t.Errorf("AtanOf(%v): %v", x, got)
		}
	}
	long := slices.Repeat([]uint32{math.MaxUint32}, 40000)
	for _, u := range []api.Whole{{}, {Neg: true}, {M: []uint32{0}}, {M: long}, {Neg: true, M: long}, {Neg: true, M: make([]uint32, 40000)}} {
		if got := atan.Series(u); got.Neg || len(got.M) != 0 {
			t.Errorf("Series of one of %d limbs: %v", len(u.M), got)
		}
	}
}
