package dy_test

import (
	"slices"
	"testing"

	"pelorus/api"
	"pelorus/dy"
)

// call is one of the package's: all numbers that it answers, and all else.
type call struct {
	name string
	do   func(a, b api.Dy) ([]api.Dy, []int)
}

// asDy puts a whole number that is answered beside the others.
func asDy(w api.Whole) api.Dy { return api.Dy{N: w} }

func calls() []call {
	return []call{
		{"Make", func(a, b api.Dy) ([]api.Dy, []int) { return []api.Dy{dy.Make(a.N, a.E), dy.Make(b.N, b.E)}, nil }},
		{"Sign", func(a, b api.Dy) ([]api.Dy, []int) { return nil, []int{dy.Sign(a), dy.Sign(b)} }},
		{"Cmp", func(a, b api.Dy) ([]api.Dy, []int) { return nil, []int{dy.Cmp(a, b), dy.Cmp(b, a), dy.Cmp(a, a)} }},
		{"Neg", func(a, b api.Dy) ([]api.Dy, []int) { return []api.Dy{dy.Neg(a), dy.Neg(b)}, nil }},
		{"Add", func(a, b api.Dy) ([]api.Dy, []int) {
			return []api.Dy{dy.Add(a), dy.Add(a, b), dy.Add(b, api.Dy{}), dy.Add(api.Dy{}, a), dy.Add(a, b, a)}, nil
		}},
		{"Sub", func(a, b api.Dy) ([]api.Dy, []int) {
			return []api.Dy{dy.Sub(a, b), dy.Sub(a, api.Dy{}), dy.Sub(api.Dy{}, b), dy.Sub(a, a)}, nil
		}},
		{"Mul", func(a, b api.Dy) ([]api.Dy, []int) { return []api.Dy{dy.Mul(a, b), dy.Mul(a, of(1, 0))}, nil }},
		{"Move", func(a, b api.Dy) ([]api.Dy, []int) {
			return []api.Dy{dy.Move(a, 0), dy.Move(a, b.E), dy.Move(b, a.E), dy.Move(b, -1)}, nil
		}},
		{"Floor", func(a, b api.Dy) ([]api.Dy, []int) { return []api.Dy{asDy(dy.Floor(a)), asDy(dy.Floor(b))}, nil }},
	}
}

func sameDy(a, b api.Dy) bool { return a.E == b.E && a.N.Neg == b.N.Neg && slices.Equal(a.N.M, b.N.M) }

func sameLists(a, b []api.Dy) bool { return slices.EqualFunc(a, b, sameDy) }

// partners are numbers to be handed in beside another one.
func partners() []api.Dy {
	return []api.Dy{{}, of(1, 0), of(-5, 3), of(7, -40), of(1, maxE), of(3, -maxE), raw(12, 1), raw(2, maxE), raw(-4, -maxE-1)}
}

// TestMayNotBeIsTakenForMade hands every call numbers that may not be, and those that Make makes of their parts.
func TestMayNotBeIsTakenForMade(t *testing.T) { // the chapter's Words
	check := func(a, b api.Dy) {
		t.Helper()
		for _, c := range calls() {
			if c.name == "Move" {
				continue // it is handed E as how far to move, too
			}
			got, told := c.do(a, b)
			want, wanted := c.do(dy.Make(a.N, a.E), dy.Make(b.N, b.E))
			if c.name == "Make" {
				want = []api.Dy{dy.Add(a), dy.Add(b)}
			}
			if !sameLists(got, want) || !slices.Equal(told, wanted) {
				t.Errorf("%s(%v, %v) is not that of those that may be", c.name, a, b)
			}
		}
		for _, n := range []int{0, 1, -1, maxE, -maxE, 2 * maxE, -2 * maxE, 1 << 62, -1 << 62} {
			if !sameDy(dy.Move(a, n), dy.Move(dy.Make(a.N, a.E), n)) {
				t.Errorf("Move(%v, %d) is not that of one that may be", a, n)
			}
		}
	}
	withEach(partners(), func(a, b api.Dy) {
		check(a, b)
		check(b, a)
	})
}

func TestAnswersMayBe(t *testing.T) { // P3.4
	withEach(partners(), func(a, b api.Dy) {
		for _, c := range calls() {
			if c.name == "Floor" {
				continue // whole numbers: see TestFloor
			}
			got, _ := c.do(a, b)
			for _, d := range got {
				if !dy.May(d) || !mayBe(d) {
					t.Errorf("%s(%v, %v): an answer may not be", c.name, a, b)
				}
			}
		}
	})
}

// spoil changes all limbs of a number, and all that there is room for behind them.
func spoil(d api.Dy) {
	room := d.N.M[:cap(d.N.M)]
	for i := range room {
		room[i] ^= 0x5a5a5a5a
	}
}

func copies(l []api.Dy) []api.Dy {
	out := slices.Clone(l)
	for i := range out {
		out[i].N.M = slices.Clone(out[i].N.M)
	}
	return out
}

func TestNothingIsShared(t *testing.T) { // R3, R5
	withEach(partners(), func(a, b api.Dy) {
		for _, c := range calls() {
			checkOwn(t, c, a, b)
		}
	})
}

// checkOwn makes a call and holds that no change to what was handed in, or to a number that was answered, is seen
// in anything else; nor has the call written behind what was handed in.
func checkOwn(t *testing.T, c call, a, b api.Dy) {
	t.Helper()
	mine := copies([]api.Dy{a, b})
	for i := range mine {
		mine[i].N.M = append(mine[i].N.M, 8, 9)
	}
	was := copies(mine)
	do := func() []api.Dy {
		x, y := mine[0], mine[1]
		x.N.M, y.N.M = x.N.M[:len(a.N.M)], y.N.M[:len(b.N.M)]
		got, _ := c.do(x, y)
		return got
	}
	got := do()
	if !sameLists(mine, was) {
		t.Fatalf("%s(%v, %v) changed what was handed in", c.name, a, b)
	}
	want := copies(got)
	for i := range got {
		spoil(got[i])
		if !sameLists(mine, was) {
			t.Fatalf("%s(%v, %v): an answer shares memory with what was handed in", c.name, a, b)
		}
		if !sameLists(got[i+1:], want[i+1:]) {
			t.Fatalf("%s(%v, %v): two answers share memory", c.name, a, b)
		}
	}
	got = do()
	if !sameLists(got, want) {
		t.Fatalf("%s(%v, %v) answers otherwise when it is asked again", c.name, a, b)
	}
	spoil(mine[0])
	spoil(mine[1])
	if !sameLists(got, want) {
		t.Fatalf("%s(%v, %v): what was handed in is kept in an answer", c.name, a, b)
	}
}

func TestAddLeavesItsList(t *testing.T) { // R3
	l := append(partners(), raw(6, 2), raw(0, 9))
	was := copies(l)
	dy.Add(l...)
	if !sameLists(l, was) {
		t.Error("Add changed what was handed in")
	}
}
