package pi_test

import (
	"math"
	"slices"
	"testing"

	"pelorus/api"
	"pelorus/num"
	"pelorus/pi"
)

// answers are those of a call: whole numbers alone.
type answers struct {
	name string
	of   func() []api.Whole
}

// every has the calls that answer whole numbers, with arguments of each kind.
func every() []answers {
	out := []answers{
		{"Scale", func() []api.Whole { return []api.Whole{pi.Scale()} }},
		{"Bounds", func() []api.Whole { lo, hi := pi.Bounds(); return []api.Whole{lo, hi} }},
	}
	for _, n := range []int{2, 3, 5, 239, 999, 1000, 1, 1001} {
		out = append(out, answers{"Inverse", func() []api.Whole { lo, hi := pi.Inverse(n); return []api.Whole{lo, hi} }})
	}
	for _, n := range []api.Num{{}, num.Of(1), num.Of(-3), pos(full, -34), power(-192), tiny(true), huge(false)} {
		out = append(out, answers{"Fix", func() []api.Whole { f, _ := pi.Fix(n); return []api.Whole{f} }})
	}
	return out
}

func clone(l []api.Whole) []api.Whole {
	var out []api.Whole
	for _, w := range l {
		out = append(out, api.Whole{Neg: w.Neg, M: slices.Clone(w.M)})
	}
	return out
}

func same(a, b []api.Whole) bool {
	return slices.EqualFunc(a, b, func(x, y api.Whole) bool { return x.Neg == y.Neg && slices.Equal(x.M, y.M) })
}

// scribble writes over limbs, and the room behind them.
func scribble(m []uint32) {
	m = m[:cap(m)]
	for i := range m {
		m[i] = 0xdeadbeef
	}
}

// TestAnswersAreTheCallersOwn writes over each answer: that changes none that is asked for later, nor the one beside it.
func TestAnswersAreTheCallersOwn(t *testing.T) { // R3, R5
	interval, part := pi.Pi(), pi.Part(pi.Scale(), pi.Scale())
	for _, c := range every() {
		got := c.of()
		want := clone(got)
		for i := range got {
			scribble(got[i].M)
			if !same(got[i+1:], want[i+1:]) {
				t.Errorf("%s: %v shares memory", c.name, want)
			}
		}
		for _, other := range every() {
			scribble(other.of()[0].M)
		}
		if again := c.of(); !same(again, want) {
			t.Errorf("%s: %v, then %v", c.name, want, again)
		}
	}
	expectIv(t, "Pi, asked again", pi.Pi(), interval)
	expectIv(t, "Part, asked again", pi.Part(pi.Scale(), pi.Scale()), part)
}

// TestHandedInStaysAsItWas has limbs with room behind them, which Part might write to.
func TestHandedInStaysAsItWas(t *testing.T) { // R3
	for _, l := range [][]uint32{{}, {1}, {0}, {3, 0, 7, 0}, {1, 0, 0, 0, 0, 0, 1}, {5, 4, 3, 2, 1, 6, 7, 8, 9, 0, 0}} {
		for _, neg := range []bool{false, true} {
			a, b := append(make([]uint32, 0, 64), l...), append(make([]uint32, 0, 64), 9, 8, 7, 6, 5, 4, 3, 2, 1, 0)
			x, y := api.Whole{Neg: neg, M: a}, api.Whole{M: b}
			first, second := pi.Part(x, y), pi.Part(y, x)
			checkRoomy(t, a, l...)
			checkRoomy(t, b, 9, 8, 7, 6, 5, 4, 3, 2, 1, 0)
			expectIv(t, "asked again", pi.Part(x, y), first)
			expectIv(t, "asked again, the other way round", pi.Part(y, x), second)
		}
	}
}

// checkRoomy fails the test unless limbs are the wanted ones, and the room behind them is empty.
func checkRoomy(t *testing.T, m []uint32, want ...uint32) {
	t.Helper()
	all := m[:cap(m)]
	if !slices.Equal(all[:len(want)], want) || slices.Max(all[len(want):]) != 0 {
		t.Errorf("%v became %v", want, all)
	}
}

// TestAnyArguments holds that no call panics.
func TestAnyArguments(t *testing.T) { // P1, R1
	for _, n := range []int{math.MinInt64, -1, 0, 1, 2, 1000, 1001, math.MaxInt64} {
		pi.Inverse(n)
	}
	odd := []api.Whole{{}, {Neg: true}, {M: []uint32{0}}, {Neg: true, M: []uint32{0, 0}}, {M: slices.Repeat([]uint32{math.MaxUint32}, 40000)}}
	for _, a := range odd {
		for _, b := range odd {
			pi.Part(a, b)
			pi.Part(api.Whole{Neg: !a.Neg, M: a.M}, b)
		}
	}
}
