package iv_test

import (
	"math"
	"slices"
	"testing"

	"pelorus/api"
	"pelorus/num"
	"pelorus/sample"
)

const (
	minE = -1 << 20
	maxE = 1 << 20
	high = 1 << 63
	full = math.MaxUint64
)

var (
	fin, pos, tiny, huge = sample.Fin, sample.Pos, sample.Tiny, sample.Huge
	inf, power, minus    = sample.Inf, sample.Power, sample.Minus
	from, none, less     = sample.Span, sample.None, sample.Less
	nought               = api.Num{}
	all                  = from(inf(true), inf(false))
)

// span is from one whole number to another one, which is not less.
func span(a, b int) api.Iv { return from(num.Of(a), num.Of(b)) }

// opposite is all opposites of what an interval has.
func opposite(x api.Iv) api.Iv {
	if x.Empty {
		return x
	}
	return from(minus(x.Hi), minus(x.Lo))
}

// has tells whether an interval has a finite number, or nought; both may be.
func has(x api.Iv, n api.Num) bool { return !x.Empty && !less(n, x.Lo) && !less(x.Hi, n) }

// probes are numbers that tell intervals with ends among few numbers apart: these, and their neighbours.
func probes() []api.Num {
	var out []api.Num
	for _, n := range sample.Few() {
		for _, m := range []api.Num{num.Next(n, false), n, num.Next(n, true)} {
			if m.Kind != api.Inf {
				out = append(out, m)
			}
		}
	}
	return out
}

// expect fails the test unless an interval is the wanted one, which may be.
func expect(t *testing.T, what string, got, want api.Iv) {
	t.Helper()
	if !sample.IvMayBe(want) {
		t.Fatalf("%s: the wanted %v may not be", what, want)
	}
	if got != want {
		t.Errorf("%s: got %v, want %v", what, got, want)
	}
}

// expectNum fails the test unless a number is the wanted one, which may be.
func expectNum(t *testing.T, what string, got, want api.Num) {
	t.Helper()
	if !sample.MayBe(want) {
		t.Fatalf("%s: the wanted %v may not be", what, want)
	}
	if got != want {
		t.Errorf("%s: got %v, want %v", what, got, want)
	}
}

// orders are all orders of a list.
func orders(l []api.Iv) [][]api.Iv {
	if len(l) < 2 {
		return [][]api.Iv{slices.Clone(l)}
	}
	var out [][]api.Iv
	for i, x := range l {
		for _, rest := range orders(slices.Concat(l[:i], l[i+1:])) {
			out = append(out, append(rest, x))
		}
	}
	return out
}
