package decimal_test

import (
	"math/rand"
	"slices"
	"testing"

	"pelorus/api"
	"pelorus/decimal"
)

// spoil changes all limbs of a number, and all that there is room for behind them.
func spoil(m []uint32) {
	room := m[:cap(m)]
	for i := range room {
		room[i] ^= 0x5a5a5a5a
	}
}

// ask makes every call that limbs or a number are handed in to, and answers the numbers, and all else as texts.
func ask(a, b api.Dec) ([]api.Dec, []string) {
	var out []api.Dec
	var told []string
	for _, d := range []api.Dec{a, b} {
		made, e := decimal.Make(d.N, d.Tens)
		parsed, other := decimal.Parse(decimal.Show(d))
		out = append(out, made, parsed)
		told = append(told, decimal.Show(d), decimal.Digits(d.N.M), string(rune('0'+e)), string(rune('0'+other)))
		if decimal.May(d) {
			told = append(told, "may")
		}
	}
	return out, append(told, string(rune('1'+decimal.Cmp(a, b))), string(rune('1'+decimal.Cmp(b, a))))
}

func copies(l []api.Dec) []api.Dec {
	out := slices.Clone(l)
	for i := range out {
		out[i].N.M = slices.Clone(out[i].N.M)
	}
	return out
}

func sameLists(a, b []api.Dec) bool { return slices.EqualFunc(a, b, same) }

// all are numbers that may be and numbers that may not, some of them with factors 10 that Make takes out.
func all() []api.Dec {
	r := rand.New(rand.NewSource(8))
	out := append(mayNot(), steps()...)
	for range 100 {
		out = append(out, someDec(r), api.Dec{N: wholeOf(someWhole(r, 50)), Tens: -r.Intn(100)})
	}
	return out
}

// TestNothingIsShared holds that no change to what was handed in, or to a number that was answered, is seen in
// anything else, that no call has written behind what was handed in, and that asking again answers the same.
func TestNothingIsShared(t *testing.T) { // R3, R5
	l := all()
	for i, a := range l {
		b := l[(i+7)%len(l)]
		mine := copies([]api.Dec{a, b})
		for k := range mine {
			mine[k].N.M = append(mine[k].N.M, 8, 9)
		}
		was := copies(mine)
		do := func() ([]api.Dec, []string) {
			x, y := mine[0], mine[1]
			x.N.M, y.N.M = x.N.M[:len(a.N.M)], y.N.M[:len(b.N.M)]
			return ask(x, y)
		}
		got, told := do()
		if !sameLists(mine, was) {
			t.Fatalf("%v, %v: what was handed in was changed", a, b)
		}
		want := copies(got)
		for k := range got {
			spoil(got[k].N.M)
			if !sameLists(mine, was) || !sameLists(got[k+1:], want[k+1:]) {
				t.Fatalf("%v, %v: an answer shares memory", a, b)
			}
		}
		got, again := do()
		if !sameLists(got, want) || !slices.Equal(told, again) {
			t.Fatalf("%v, %v: answers otherwise when asked again", a, b)
		}
		spoil(mine[0].N.M)
		spoil(mine[1].N.M)
		if !sameLists(got, want) {
			t.Fatalf("%v, %v: what was handed in is kept in an answer", a, b)
		}
	}
}

// TestAnswersMayBe holds that what Make answers may be, and that beside an error there are noughts.
func TestAnswersMayBe(t *testing.T) { // P4.1, R4
	for _, d := range all() {
		got, e := decimal.Make(d.N, d.Tens)
		if !decimal.May(got) || !mayBe(got) || e != api.OK && !isNought(got) {
			t.Errorf("Make(%v): %v, error %d", d, got, e)
		}
		checkBack(t, got, e)
	}
}
