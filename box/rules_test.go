package box_test

import (
	"slices"
	"testing"

	"pelorus/api"
	"pelorus/box"
	"pelorus/iv"
	"pelorus/num"
	"pelorus/sample"
)

// TestExamples has those of the chapter.
func TestExamples(t *testing.T) { // the chapter's Examples
	made := func(lo, hi int) api.Iv { return iv.Make(num.Of(lo), num.Of(hi)) }
	if got := box.Widest(of(made(0, 1), made(0, 3))); got != 1 {
		t.Errorf("Widest([0, 1], [0, 3]): %d", got)
	}
	got := box.Meet(of(made(0, 2), made(0, 1)), of(made(1, 3), made(2, 3)))
	expect(t, "Meet([0, 2] [0, 1], [1, 3] [2, 3])", got, nones(2))
	expectIs(t, "Empty of it", box.Empty(got), true)
}

// roomy is a box with room behind it, which a call might write to.
func roomy(b []api.Iv) []api.Iv {
	out := append(make([]api.Iv, 0, 3*len(b)+4), b...)
	behind := out[len(out):cap(out)]
	for i := range behind {
		behind[i] = span(1000+i, 2000+i)
	}
	return out
}

// whole is a box with what stands in the room behind it.
func whole(b []api.Iv) []api.Iv { return slices.Clone(b[:cap(b)]) }

// answers are all boxes that are answered of two and a place.
func answers(a, b []api.Iv, i int) [][]api.Iv {
	low, up := box.Split(a, i)
	return [][]api.Iv{box.Fair(a), box.Fair(b), box.Meet(a, b), box.Hull(a, b), box.Meet(a, a), box.Hull(b, b), low, up}
}

// numbers are all else that is answered.
func numbers(a, b []api.Iv, p []api.Num) []int {
	out := []int{box.Widest(a), box.Widest(b)}
	for _, is := range []bool{box.Empty(a), box.Empty(b), box.Has(a, p), box.Has(b, p), box.Within(a, b), box.Within(b, a)} {
		if is {
			out = append(out, 1)
		} else {
			out = append(out, 0)
		}
	}
	return out
}

// clones are copies of boxes.
func clones(l [][]api.Iv) [][]api.Iv {
	var out [][]api.Iv
	for _, b := range l {
		out = append(out, slices.Clone(b))
	}
	return out
}

// same tells whether boxes are the same, one by one.
func same(a, b [][]api.Iv) bool { return slices.EqualFunc(a, b, slices.Equal) }

// someBoxes are boxes of few dimensions, some of them empty.
func someBoxes() [][]api.Iv {
	out := few()
	for _, b := range few() {
		if h := hollows(b); len(b) < 4 && len(h) > 0 {
			out = append(out, h[0], h[7])
		}
	}
	return out
}

// TestNothingIsShared writes over each answer, with what may stand behind it, and then over what was handed in.
func TestNothingIsShared(t *testing.T) { // R3
	for _, a := range someBoxes() {
		for _, b := range someBoxes() {
			for _, i := range []int{0, len(a) - 1} {
				x, y := roomy(a), roomy(b)
				wasX, wasY := whole(x), whole(y)
				got := answers(x, y, i)
				was := clones(got)
				for j, g := range got {
					full := g[:cap(g)]
					for k := range full {
						full[k] = span(-77, 77)
					}
					for k, h := range got {
						if k > j && !slices.Equal(h, was[k]) {
							t.Fatalf("of %v and %v: answer %d shares with %d", a, b, j, k)
						}
					}
				}
				if !slices.Equal(whole(x), wasX) || !slices.Equal(whole(y), wasY) {
					t.Fatalf("of %v and %v: what was handed in is changed by what is done to the answers", a, b)
				}
				got = answers(x, y, i)
				for k := range x {
					x[k] = span(-88, 88)
				}
				for k := range y {
					y[k] = span(-99, 99)
				}
				if !same(got, was) {
					t.Fatalf("of %v and %v: answers change with what was handed in", a, b)
				}
			}
		}
	}
}

// TestAskedAgain holds, too, that what is handed in stays as it was, and so do points.
func TestAskedAgain(t *testing.T) { // R3, R5
	for _, a := range someBoxes() {
		for _, b := range someBoxes() {
			x, y := roomy(a), roomy(b)
			p := append(make([]api.Num, 0, 20), slices.Repeat([]api.Num{num.Of(1)}, len(a))...)
			wasX, wasY, wasP := whole(x), whole(y), slices.Clone(p[:cap(p)])
			first, then := answers(x, y, 0), answers(x, y, 0)
			if !same(first, then) || !slices.Equal(numbers(x, y, p), numbers(x, y, p)) {
				t.Errorf("of %v and %v: otherwise when asked again", a, b)
			}
			if !slices.Equal(whole(x), wasX) || !slices.Equal(whole(y), wasY) || !slices.Equal(p[:cap(p)], wasP) {
				t.Errorf("of %v and %v: what was handed in is changed", a, b)
			}
		}
	}
}

// TestAnyArguments holds that no call panics, and that what is answered may be, and is empty in all places or in none.
func TestAnyArguments(t *testing.T) { // P1, R1
	bad := sample.IvMayNot()
	lists := [][]api.Iv{nil, {}, bad, sample.Ivs(), sample.FewIvs(), sample.FewIvs()[1:], bad[:1], bad[3:7], long(1000)}
	for _, a := range lists {
		for _, b := range lists {
			for _, i := range []int{-1, 0, len(a) - 1, len(a)} {
				for _, got := range answers(a, b, i) {
					expect(t, "an answer", got, fair(got))
				}
			}
			for _, p := range [][]api.Num{nil, {}, sample.MayNot(), sample.Row(), sample.Few(), sample.MayNot()[:4], make([]api.Num, 1000)} {
				numbers(a, b, p)
			}
		}
	}
}
