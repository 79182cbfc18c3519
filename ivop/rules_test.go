package ivop_test

import (
	"slices"
	"testing"

	"pelorus/api"
	"pelorus/iv"
	"pelorus/ivop"
	"pelorus/num"
	"pelorus/sample"
)

// TestExamples has those of the chapter.
func TestExamples(t *testing.T) { // the chapter's Examples
	made := func(lo, hi int) api.Iv { return iv.Make(num.Of(lo), num.Of(hi)) }
	expect(t, "Mul([-1, 2], [3, 4])", ivop.Mul(made(-1, 2), made(3, 4)), span(-4, 8))
	expect(t, "Div([1, 2], [0, 4])", ivop.Div(made(1, 2), made(0, 4)), on(power(-2)))
	expect(t, "Sqr([-1, 2])", ivop.Sqr(made(-1, 2)), span(0, 4))
}

// answers are what every call of two intervals answers.
func answers(a, b api.Iv) []api.Iv {
	var out []api.Iv
	for _, op := range slices.Concat(ofTwo(), ofOne()) {
		out = append(out, op.of(a, b))
	}
	return out
}

// TestMayNotBeIsTakenForEmpty hands intervals that may not be, and the empty one, to every call, in each place.
func TestMayNotBeIsTakenForEmpty(t *testing.T) { // the chapter's Words
	not := append(sample.IvMayNot(), none())
	others := append(sample.FewIvs(), not[:5]...)
	for _, bad := range not {
		for _, x := range others {
			for _, op := range ofTwo() {
				expect(t, op.name+" of one ahead", op.of(bad, x), none())
				expect(t, op.name+" of one behind", op.of(x, bad), none())
			}
		}
		for _, op := range ofOne() {
			expect(t, op.name, op.of(bad, api.Iv{}), none())
		}
	}
}

// TestAnswersMayBe holds, too, that asking again answers the same.
func TestAnswersMayBe(t *testing.T) { // R1, R5
	few := slices.Concat(sample.FewIvs(), sample.IvMayNot()[:10])
	for _, a := range slices.Concat(sample.Ivs(), few) {
		for _, b := range few {
			l := answers(a, b)
			for i, x := range l {
				if !sample.IvMayBe(x) {
					t.Errorf("of %v and %v: answer %d: %v", a, b, i, x)
				}
			}
			if !slices.Equal(answers(a, b), l) {
				t.Errorf("of %v and %v: otherwise when asked again", a, b)
			}
		}
	}
}

// TestListsStayAsTheyWere has a list with room behind it, which a call might write to.
func TestListsStayAsTheyWere(t *testing.T) { // P9.1, R3
	l := make([]api.Iv, 0, 100)
	l = append(l, sample.FewIvs()[1:]...)
	l = append(l, sample.IvMayNot()[:5]...)
	was := slices.Clone(l[:cap(l)])
	for n := range len(l) + 1 {
		if got := ivop.Add(l[:n]...); ivop.Add(l[:n]...) != got {
			t.Errorf("of %d: otherwise when asked again", n)
		}
	}
	if !slices.Equal(l[:cap(l)], was) {
		t.Error("Add changed what was handed in")
	}
}
