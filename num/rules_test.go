package num_test

import (
	"slices"
	"testing"

	"pelorus/api"
	"pelorus/dy"
	"pelorus/num"
)

// call is one of the package's that two numbers are handed in to: all numbers that it answers, and all else.
type call struct {
	name string
	do   func(a, b api.Num) ([]api.Num, []int)
}

func calls() []call {
	return []call{
		{"Cmp", func(a, b api.Num) ([]api.Num, []int) { return nil, []int{num.Cmp(a, b), num.Cmp(b, a), num.Cmp(a, a)} }},
		{"Sign", func(a, b api.Num) ([]api.Num, []int) { return nil, []int{num.Sign(a), num.Sign(b)} }},
		{"Neg", func(a, b api.Num) ([]api.Num, []int) { return []api.Num{num.Neg(a), num.Neg(b)}, nil }},
		{"Next", func(a, b api.Num) ([]api.Num, []int) {
			return []api.Num{num.Next(a, true), num.Next(a, false), num.Next(b, true), num.Next(b, false)}, nil
		}},
		{"Least", func(a, b api.Num) ([]api.Num, []int) {
			return []api.Num{num.Least(a), num.Least(a, b), num.Least(b, a), num.Least(a, b, num.Of(1), a)}, nil
		}},
		{"Most", func(a, b api.Num) ([]api.Num, []int) {
			return []api.Num{num.Most(a), num.Most(a, b), num.Most(b, a), num.Most(a, b, num.Of(-1), a)}, nil
		}},
	}
}

// TestMayNotBeIsTakenForNought hands numbers that may not be, and nought in their place, to every call but May and
// Exact, which tell them apart: see TestMay and TestExact.
func TestMayNotBeIsTakenForNought(t *testing.T) { // the chapter's Words
	nought := api.Num{}
	for _, c := range calls() {
		check := func(a, b, x, y api.Num) {
			t.Helper()
			got, told := c.do(a, b)
			want, wanted := c.do(x, y)
			if !slices.Equal(got, want) || !slices.Equal(told, wanted) {
				t.Errorf("%s(%v, %v): %v %v, not %v %v", c.name, a, b, got, told, want, wanted)
			}
		}
		for _, bad := range mayNot() {
			for _, n := range few() {
				check(bad, n, nought, n)
				check(n, bad, n, nought)
			}
			for _, other := range mayNot() {
				check(bad, other, nought, nought)
			}
		}
	}
}

func TestAnswersMayBe(t *testing.T) { // P5.2 to P5.4
	all := append(row(), mayNot()...)
	for _, c := range calls() {
		for _, a := range all {
			for _, b := range few() {
				got, _ := c.do(a, b)
				for _, n := range got {
					if !num.May(n) || !mayBe(n) {
						t.Errorf("%s(%v, %v): %v", c.name, a, b, n)
					}
				}
			}
		}
	}
}

func TestListsStayAsTheyWere(t *testing.T) { // R3, R5
	l := append(row(), mayNot()...)
	was := slices.Clone(l)
	for range 2 {
		expect(t, "Least of all", num.Least(l...), inf(true))
		expect(t, "Most of all", num.Most(l...), inf(false))
	}
	if !slices.Equal(l, was) {
		t.Error("what was handed in was changed")
	}
}

// TestRoundLeavesWhatIsHandedIn holds that neither the limbs nor what there is room for behind them are changed, and
// that asking again answers the same.
func TestRoundLeavesWhatIsHandedIn(t *testing.T) { // R3, R5
	for _, m := range [][]uint32{nil, {}, {0, 0}, {1}, {6, 0}, {5, 7}, {1, 0, 1 << 31}, {0, 2, 9, 1, 0}, {3, 4, 5, 6, 7, 8}} {
		for _, e := range []int{0, -200, minE - 20, maxE, maxDy + 1} {
			room := append(slices.Clone(m), 8, 9)
			was := slices.Clone(room)
			d := raw(true, e, room[:len(m)]...)
			lo, hi := num.Round(d, false), num.Round(d, true)
			if !slices.Equal(room, was) || lo != num.Round(d, false) || hi != num.Round(d, true) {
				t.Errorf("Round(%v times 2^%d): changed, or otherwise when asked again", m, e)
			}
		}
	}
}

func TestExactIsTheCallersOwn(t *testing.T) { // R3, R5
	for _, n := range append(row(), mayNot()...) {
		first, is := num.Exact(n)
		second, again := num.Exact(n)
		want := slices.Clone(second.N.M)
		room := first.N.M[:cap(first.N.M)]
		for i := range room {
			room[i] ^= 0x5a5a5a5a
		}
		if is != again || !slices.Equal(second.N.M, want) {
			t.Errorf("Exact(%v): two answers share memory", n)
		}
		if third, _ := num.Exact(n); dy.Cmp(second, third) != 0 {
			t.Errorf("Exact(%v): answers otherwise when asked again", n)
		}
	}
}
