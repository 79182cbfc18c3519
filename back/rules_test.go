package back_test

import (
	"testing"

	"pelorus/api"
	"pelorus/back"
	"pelorus/iv"
	"pelorus/num"
	"pelorus/sample"
)

// TestExamples has those of the chapter, and of the whole.
func TestExamples(t *testing.T) { // the chapter's Examples
	made := func(lo, hi int) api.Iv { return iv.Make(num.Of(lo), num.Of(hi)) }
	x, y := back.Plus(made(3, 3), made(0, 5), made(1, 1))
	expect(t, "Plus([3, 3], [0, 5], [1, 1])", x, span(2, 2))
	expect(t, "Plus([3, 3], [0, 5], [1, 1])", y, span(1, 1))
	expect(t, "Sqr([4, 9], [-5, 0])", back.Sqr(made(4, 9), made(-5, 0)), span(-3, -2))
	x, y = back.Plus(made(0, 3), made(0, 10), made(0, 10))
	expect(t, "x and y within [0, 3]", x, span(0, 3))
	expect(t, "x and y within [0, 3]", y, span(0, 3))
}

// checkLetter holds a call against the promise's words, and that it leaves nothing that was not there. Asked again, it
// answers the same.
func checkLetter(t *testing.T, c call, z, x, y api.Iv) {
	t.Helper()
	left, right := c.of(z, x, y)
	wantLeft, wantRight := c.promise(z, x, y)
	if left != wantLeft || right != wantRight {
		t.Fatalf("%s of %v, %v and %v: %v, %v, not %v, %v", c.name, z, x, y, left, right, wantLeft, wantRight)
	}
	if !within(left, meet(x, all)) || sample.IvMayBe(y) && !within(right, y) {
		t.Fatalf("%s of %v, %v and %v: more than there was: %v, %v", c.name, z, x, y, left, right)
	}
	if again, twice := c.of(z, x, y); again != left || twice != right {
		t.Fatalf("%s of %v, %v and %v: otherwise when asked again", c.name, z, x, y)
	}
}

// TestToTheLetter has all intervals with ends among few numbers in each place, and fewer in the other ones.
func TestToTheLetter(t *testing.T) { // P10.1 to P10.4, R1, R5
	few := append(sample.FewIvs(), sample.IvMayNot()[:3]...)
	for _, a := range sample.Ivs() {
		for _, b := range few {
			for _, c := range few {
				for _, call := range every() {
					checkLetter(t, call, a, b, c)
					checkLetter(t, call, b, a, c)
					checkLetter(t, call, b, c, a)
				}
			}
		}
	}
}

// TestMayNotBeIsTakenForEmpty hands intervals that may not be, and the empty one, to every call, in each place.
func TestMayNotBeIsTakenForEmpty(t *testing.T) { // P10.1 to P10.3, the Words of chapters 8 and 9
	not := append(sample.IvMayNot(), none())
	others := append([]api.Iv{all, {}, span(1, 2), span(-1, 2), on(nought), none()}, not[:2]...)
	for _, bad := range not {
		for _, a := range others {
			for _, c := range ofOne() {
				expectNone(t, c, bad, a, none())
				expectNone(t, c, a, bad, none())
			}
			for _, b := range others {
				for _, c := range ofTwo() {
					expectNone(t, c, bad, a, b)
					expectNone(t, c, a, bad, b)
					expectNone(t, c, a, b, bad)
				}
			}
		}
	}
}

// expectNone fails the test unless nothing is left.
func expectNone(t *testing.T, c call, z, x, y api.Iv) {
	t.Helper()
	if left, right := c.of(z, x, y); left != none() || right != none() {
		t.Errorf("%s of %v, %v and %v: %v and %v are left", c.name, z, x, y, left, right)
	}
}

// TestAllTellsNothing holds that of operands nothing is taken, when the result may be any number; but by nought nothing
// is divided, and no root has a square below nought.
func TestAllTellsNothing(t *testing.T) { // P10.1 to P10.3
	for _, x := range sample.Ivs() {
		for _, y := range sample.Ivs() {
			for _, c := range ofTwo() {
				k := known{all, x, y, x, y}
				if x.Empty || y.Empty || c.name == "Over" && y == at(nought) {
					k.left, k.right = none(), none()
				}
				k.check(t, c)
			}
		}
		expect(t, "Sqr of All", back.Sqr(all, x), x)
		expect(t, "Root of All", back.Root(all, x), meet(x, on(nought)))
		expect(t, "Neg of All", back.Neg(all, x), x)
	}
}
