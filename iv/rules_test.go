package iv_test

import (
	"slices"
	"testing"

	"pelorus/api"
	"pelorus/arith"
	"pelorus/iv"
	"pelorus/num"
	"pelorus/sample"
)

// TestExamples has those of the chapter.
func TestExamples(t *testing.T) { // the chapter's Examples
	expect(t, "Meet([0, 2], [1, 3])", iv.Meet(iv.Make(num.Of(0), num.Of(2)), iv.Make(num.Of(1), num.Of(3))), span(1, 2))
	expect(t, "Hull([0, 1], [3, 4])", iv.Hull(iv.Make(num.Of(0), num.Of(1)), iv.Make(num.Of(3), num.Of(4))), span(0, 4))
	expectNum(t, "Mid([0, 1])", iv.Mid(iv.Make(num.Of(0), num.Of(1))), arith.Half(num.Of(1), false))
}

// answers are what the calls of one interval and one number answer.
func answers(x api.Iv, n api.Num) ([]api.Iv, []api.Num) {
	low, high := iv.Split(x)
	return []api.Iv{low, high, iv.Inflate(x, n), iv.Inflate(x, minus(n)), iv.Meet(x), iv.Hull(x), iv.Make(x.Lo, n), iv.Make(n, x.Hi)},
		[]api.Num{iv.Mid(x), iv.Width(x)}
}

// TestMayNotBeIsTakenForEmpty hands intervals that may not be, and the empty one in their place, to the calls of one.
func TestMayNotBeIsTakenForEmpty(t *testing.T) { // the chapter's Words, P8.4, P8.5
	for _, bad := range sample.IvMayNot() {
		expectNum(t, "Mid", iv.Mid(bad), nought)
		expectNum(t, "Width", iv.Width(bad), nought)
		low, high := iv.Split(bad)
		expect(t, "Split, below", low, none())
		expect(t, "Split, above", high, none())
		for _, by := range append(sample.Few(), sample.MayNot()...) {
			expect(t, "Inflate", iv.Inflate(bad, by), none())
		}
	}
}

// TestAnswersMayBe holds, too, that asking again answers the same.
func TestAnswersMayBe(t *testing.T) { // R1, R5
	for _, x := range slices.Concat(sample.Ivs(), sample.FewIvs(), sample.IvMayNot()) {
		for _, n := range sample.Few() {
			l, k := answers(x, n)
			for _, y := range l {
				if !sample.IvMayBe(y) || !iv.May(y) {
					t.Errorf("of %v and %v: %v", x, n, y)
				}
			}
			for _, m := range k {
				if !sample.MayBe(m) {
					t.Errorf("of %v and %v: %v", x, n, m)
				}
			}
			again, also := answers(x, n)
			if !slices.Equal(l, again) || !slices.Equal(k, also) {
				t.Errorf("of %v and %v: otherwise when asked again", x, n)
			}
		}
	}
}

// TestListsStayAsTheyWere has lists with room behind them, which a call might write to.
func TestListsStayAsTheyWere(t *testing.T) { // R3
	l := make([]api.Iv, 0, 600)
	l = append(l, sample.FewIvs()[1:]...)
	l = append(l, sample.IvMayNot()[:5]...)
	was := slices.Clone(l[:cap(l)])
	for _, n := range []int{0, 1, 2, 14, len(l)} {
		meet, hull := iv.Meet(l[:n]...), iv.Hull(l[:n]...)
		if again, also := iv.Meet(l[:n]...), iv.Hull(l[:n]...); again != meet || also != hull {
			t.Errorf("of %d: otherwise when asked again", n)
		}
	}
	if !slices.Equal(l[:cap(l)], was) {
		t.Error("Meet or Hull changed what was handed in")
	}
}
