package ivop_test

import (
	"math/rand"
	"slices"
	"testing"

	"pelorus/api"
	"pelorus/sample"
)

// TestAnswersHaveWhatIsMade asks for intervals with all kinds of ends. Sums of numbers that are far from each other are
// long, so these are asked for of fewer.
func TestAnswersHaveWhatIsMade(t *testing.T) { // P9.1 to P9.5
	few, many := sets(sample.FewIvs()...), sets(sample.Ivs()...)
	for _, op := range ofTwo() {
		l := many
		if op.name == "Add" || op.name == "Sub" {
			l = few
		}
		for _, a := range l {
			for _, b := range l {
				checkAround(t, op, a, b)
			}
		}
	}
	for _, op := range ofOne() {
		for _, a := range many {
			checkAround(t, op, a, many[1])
		}
	}
}

func TestAnswersHaveWhatIsMadeByChance(t *testing.T) { // P9.1 to P9.5
	r := rand.New(rand.NewSource(1))
	for range 300 {
		l := sets(anyIv(r), anyIv(r))
		for _, op := range slices.Concat(ofTwo(), ofOne()) {
			checkAround(t, op, l[0], l[1])
		}
	}
}

// checkNested holds that of intervals within others each operation makes what is within what it makes of those.
func checkNested(t *testing.T, a, b, c, d api.Iv) {
	t.Helper()
	for _, op := range slices.Concat(ofTwo(), ofOne()) {
		if in, out := op.of(a, b), op.of(c, d); !within(in, out) {
			t.Fatalf("%s of %v and %v: %v, of %v and %v: %v", op.name, a, b, in, c, d, out)
		}
	}
}

func TestNested(t *testing.T) { // P9.5
	var pairs [][2]api.Iv
	for _, x := range sample.FewIvs() {
		for _, y := range sample.FewIvs() {
			if within(x, y) {
				pairs = append(pairs, [2]api.Iv{x, y})
			}
		}
	}
	if len(pairs) < 50 {
		t.Fatalf("%d pairs alone", len(pairs))
	}
	for _, p := range pairs {
		for _, q := range pairs {
			checkNested(t, p[0], q[0], p[1], q[1])
		}
	}
}

func TestNestedByChance(t *testing.T) { // P9.5
	r := rand.New(rand.NewSource(2))
	nest := func() (api.Iv, api.Iv) {
		x, y := anyIv(r), anyIv(r)
		out := from(x.Lo, x.Hi)
		if less(y.Lo, out.Lo) {
			out.Lo = y.Lo
		}
		if less(out.Hi, y.Hi) {
			out.Hi = y.Hi
		}
		return x, out
	}
	for range 3000 {
		a, c := nest()
		b, d := nest()
		checkNested(t, a, b, c, d)
	}
}
