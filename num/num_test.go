package num_test

import (
	"cmp"
	"math"
	"math/big"
	"math/rand"
	"slices"
	"testing"

	"pelorus/api"
	"pelorus/dy"
	"pelorus/num"
)

func TestExamples(t *testing.T) { // the chapter's Examples
	expect(t, "Of(1)", num.Of(1), fin(false, 1<<63, -63))
	d := dy.Add(of(1, 64), of(1, 0))
	expect(t, "Round(2^64 + 1, not up)", num.Round(d, false), fin(false, 1<<63, 1))
	expect(t, "Round(2^64 + 1, up)", num.Round(d, true), fin(false, 1<<63+1, 1))
}

func TestMay(t *testing.T) { // P5.1
	for _, n := range row() {
		if !num.May(n) || !mayBe(n) {
			t.Errorf("May(%v): false", n)
		}
	}
	for _, n := range mayNot() {
		if num.May(n) || mayBe(n) {
			t.Errorf("May(%v): true", n)
		}
	}
	for _, c := range []struct {
		n    api.Num
		want bool
	}{
		{api.Num{}, true}, {api.Num{Kind: 2}, true}, {api.Num{Kind: 2, Neg: true}, true},
		{api.Num{Kind: 1, M: 1 << 63}, true}, {api.Num{Kind: 1, Neg: true, M: 1<<64 - 1}, true},
		{api.Num{Kind: 1, M: 1 << 63, E: -1 << 20}, true}, {api.Num{Kind: 1, M: 1 << 63, E: 1 << 20}, true},
		{api.Num{Neg: true}, false}, {api.Num{M: 1}, false}, {api.Num{E: 1}, false},
		{api.Num{Kind: 1}, false}, {api.Num{Kind: 1, M: 1<<63 - 1}, false},
		{api.Num{Kind: 1, M: 1 << 63, E: -1<<20 - 1}, false}, {api.Num{Kind: 1, M: 1 << 63, E: 1<<20 + 1}, false},
		{api.Num{Kind: 2, M: 1 << 63}, false}, {api.Num{Kind: 2, E: -1}, false},
		{api.Num{Kind: 3}, false}, {api.Num{Kind: -1}, false}, {api.Num{Kind: 3, M: 1 << 63}, false},
	} {
		if num.May(c.n) != c.want {
			t.Errorf("May(%v): %v", c.n, !c.want)
		}
	}
}

// isNoughts tells whether a dyadic number is the zero value.
func isNoughts(d api.Dy) bool { return !d.N.Neg && len(d.N.M) == 0 && d.E == 0 }

func TestExact(t *testing.T) { // P5.1
	for _, n := range row() {
		got, is := num.Exact(n)
		if n.Kind == api.Inf {
			if is || !isNoughts(got) {
				t.Errorf("Exact(%v): %v, %v", n, got, is)
			}
			continue
		}
		if !is || !dy.May(got) || compare(valueOf(got), exactly(n)) != 0 {
			t.Errorf("Exact(%v): %v, %v", n, got, is)
		}
	}
	for _, n := range mayNot() {
		if got, is := num.Exact(n); is || !isNoughts(got) {
			t.Errorf("Exact(%v): %v, %v", n, got, is)
		}
	}
}

// TestExactOfBounds has the dyadic numbers written out.
func TestExactOfBounds(t *testing.T) { // P5.1
	for _, c := range []struct {
		n    api.Num
		want api.Dy
	}{
		{api.Num{}, api.Dy{}},
		{tiny(false), raw(false, minE+63, 1)}, {tiny(true), raw(true, minE+63, 1)},
		{huge(false), raw(false, maxE, math.MaxUint32, math.MaxUint32)}, {huge(true), raw(true, maxE, math.MaxUint32, math.MaxUint32)},
		{fin(false, high, maxE), raw(false, maxE+63, 1)}, {fin(true, full, minE), raw(true, minE, math.MaxUint32, math.MaxUint32)},
		{fin(false, 3<<62, -64), raw(false, -2, 3)}, {fin(true, 1<<63|1<<33, 0), raw(true, 33, 1<<30+1)},
		{fin(true, 1<<63|1, -7), raw(true, -7, 1, 1<<31)}, {fin(false, 1<<63|1<<32, 5), raw(false, 37, 1<<31|1)},
	} {
		got, is := num.Exact(c.n)
		if !is || got.E != c.want.E || got.N.Neg != c.want.N.Neg || !slices.Equal(got.N.M, c.want.N.M) {
			t.Errorf("Exact(%v): %v, %v", c.n, got, is)
		}
	}
}

func TestInfinite(t *testing.T) { // P5.1
	expect(t, "Infinite(above)", num.Infinite(false), api.Num{Kind: 2})
	expect(t, "Infinite(below)", num.Infinite(true), api.Num{Kind: 2, Neg: true})
}

func TestOf(t *testing.T) { // P5.1
	for _, c := range []struct {
		n    int
		want api.Num
	}{
		{0, api.Num{}}, {1, fin(false, high, -63)}, {-1, fin(true, high, -63)},
		{2, fin(false, high, -62)}, {3, fin(false, 3<<62, -62)}, {-5, fin(true, 5<<61, -61)},
		{math.MaxInt64, fin(false, full-1, -1)}, {math.MinInt64, fin(true, high, 0)},
		{math.MinInt64 + 1, fin(true, full-1, -1)}, {math.MaxInt64 - 1, fin(false, full-3, -1)},
	} {
		expect(t, "Of", num.Of(c.n), c.want)
	}
	check := func(n int) {
		got := num.Of(n)
		if !mayBe(got) || beside(got, value{big.NewInt(int64(n)), 0}) != 0 {
			t.Errorf("Of(%d): %v", n, got)
		}
	}
	for k := range 64 {
		for d := -2; d <= 2; d++ {
			check(1<<k + d)
			check(-(1 << k) + d)
		}
	}
	r := rand.New(rand.NewSource(1))
	for range 5000 {
		check(int(r.Uint64()) >> r.Intn(64))
	}
}

func TestSign(t *testing.T) { // P5.1
	for _, n := range row() {
		if got, want := num.Sign(n), index(n).Sign(); got != want {
			t.Errorf("Sign(%v): %d", n, got)
		}
	}
	for _, n := range mayNot() {
		if got := num.Sign(n); got != 0 {
			t.Errorf("Sign(%v): %d", n, got)
		}
	}
}

func TestNeg(t *testing.T) { // P5.1
	for _, n := range row() {
		expect(t, "Neg", num.Neg(n), at(new(big.Int).Neg(index(n))))
	}
	for _, n := range mayNot() {
		expect(t, "Neg of one that may not be", num.Neg(n), api.Num{})
	}
	expect(t, "Neg of infinite", num.Neg(inf(false)), inf(true))
	expect(t, "Neg of infinite below", num.Neg(inf(true)), inf(false))
	expect(t, "Neg of -3", num.Neg(num.Of(-3)), num.Of(3))
}

// TestCmp compares each of row with each: of all kinds and signs, with E far apart, and with M alone apart.
func TestCmp(t *testing.T) { // P5.1
	l := row()
	for i, a := range l {
		for k, b := range l {
			if got, want := num.Cmp(a, b), cmp.Compare(i, k); got != want {
				t.Fatalf("Cmp(%v, %v): %d, not %d", a, b, got, want)
			}
		}
	}
	r := rand.New(rand.NewSource(2))
	for range 5000 {
		a, b := someNum(r), someNum(r)
		if got, want := num.Cmp(a, b), index(a).Cmp(index(b)); got != want {
			t.Fatalf("Cmp(%v, %v): %d, not %d", a, b, got, want)
		}
	}
}

// TestCmpOfValues holds Cmp against the numbers' values, without their places in the row.
func TestCmpOfValues(t *testing.T) { // P5.1
	r := rand.New(rand.NewSource(3))
	for range 300 {
		a, b := someNum(r), someNum(r)
		if b.Kind == api.Inf {
			continue
		}
		if got, want := num.Cmp(a, b), beside(a, exactly(b)); got != want {
			t.Fatalf("Cmp(%v, %v): %d, not %d", a, b, got, want)
		}
	}
	for n := -50; n <= 50; n++ {
		for k := -50; k <= 50; k++ {
			if got := num.Cmp(num.Of(n), num.Of(k)); got != cmp.Compare(n, k) {
				t.Errorf("Cmp(%d, %d): %d", n, k, got)
			}
		}
	}
}

// checkNext holds that the next numbers are those beside a number in the row, and that they lead back.
func checkNext(t *testing.T, n api.Num) {
	t.Helper()
	one := big.NewInt(1)
	above, below := num.Next(n, true), num.Next(n, false)
	if n == inf(false) {
		expect(t, "Next of infinite, up", above, n)
	} else {
		expect(t, "Next, up", above, at(new(big.Int).Add(index(n), one)))
		expect(t, "Next, up and back", num.Next(above, false), n)
	}
	if n == inf(true) {
		expect(t, "Next of infinite below, not up", below, n)
	} else {
		expect(t, "Next, not up", below, at(new(big.Int).Sub(index(n), one)))
		expect(t, "Next, not up, and back", num.Next(below, true), n)
	}
	expect(t, "Next of the opposite, not up", num.Next(minus(n), false), minus(above))
	expect(t, "Next of the opposite, up", num.Next(minus(n), true), minus(below))
}

func TestNext(t *testing.T) { // P5.3
	for _, n := range row() {
		checkNext(t, n)
	}
	r := rand.New(rand.NewSource(4))
	for range 3000 {
		checkNext(t, someNum(r))
	}
}

// TestNextAtTheEdges has the next numbers written out.
func TestNextAtTheEdges(t *testing.T) { // P5.3
	for _, c := range []struct {
		name        string
		n, up, down api.Num
	}{
		{"nought", api.Num{}, tiny(false), tiny(true)},
		{"the Tiny", tiny(false), fin(false, high+1, minE), api.Num{}},
		{"the Tiny below nought", tiny(true), api.Num{}, fin(true, high+1, minE)},
		{"the Huge", huge(false), inf(false), fin(false, full-1, maxE)},
		{"the Huge below nought", huge(true), fin(true, full-1, maxE), inf(true)},
		{"infinite", inf(false), inf(false), huge(false)},
		{"infinite below nought", inf(true), huge(true), inf(true)},
		{"1", fin(false, high, -63), fin(false, high+1, -63), fin(false, full, -64)},
		{"-1", fin(true, high, -63), fin(true, full, -64), fin(true, high+1, -63)},
		{"all bits", fin(false, full, 7), fin(false, high, 8), fin(false, full-1, 7)},
		{"all bits, below nought", fin(true, full, 7), fin(true, full-1, 7), fin(true, high, 8)},
		{"all bits at the least E", fin(false, full, minE), fin(false, high, minE+1), fin(false, full-1, minE)},
		{"one bit behind the least E", fin(false, high, minE+1), fin(false, high+1, minE+1), fin(false, full, minE)},
		{"one bit at the greatest E", fin(false, high, maxE), fin(false, high+1, maxE), fin(false, full, maxE-1)},
		{"all bits ahead of the greatest E", fin(true, full, maxE-1), fin(true, full-1, maxE-1), fin(true, high, maxE)},
	} {
		expect(t, c.name+", up", num.Next(c.n, true), c.up)
		expect(t, c.name+", not up", num.Next(c.n, false), c.down)
	}
}

func TestLeastAndMost(t *testing.T) { // P5.4
	expect(t, "Least of none", num.Least(), inf(false))
	expect(t, "Most of none", num.Most(), inf(true))
	expect(t, "Least of an empty list", num.Least([]api.Num{}...), inf(false))
	expect(t, "Most of an empty list", num.Most([]api.Num{}...), inf(true))
	for _, n := range row() {
		expect(t, "Least of one", num.Least(n), n)
		expect(t, "Most of one", num.Most(n), n)
		expect(t, "Least of equal ones", num.Least(n, n, n), n)
		expect(t, "Most of equal ones", num.Most(n, n, n), n)
		expect(t, "Least with infinite below", num.Least(n, inf(true)), inf(true))
		expect(t, "Least with infinite", num.Least(inf(false), n), n)
		expect(t, "Most with infinite", num.Most(n, inf(false)), inf(false))
		expect(t, "Most with infinite below", num.Most(inf(true), n), n)
	}
	three, two, less := num.Of(3), num.Of(2), num.Of(-7)
	for _, l := range [][]api.Num{{three, two, less}, {two, less, three}, {less, three, two}, {less, less, two, three, three}} {
		expect(t, "Least", num.Least(l...), less)
		expect(t, "Most", num.Most(l...), three)
	}
}

func TestLeastAndMostOfMany(t *testing.T) { // P5.4
	r := rand.New(rand.NewSource(5))
	for range 1000 {
		l := make([]api.Num, 1+r.Intn(20))
		for i := range l {
			l[i] = someNum(r)
			if r.Intn(4) == 0 {
				l[i] = l[r.Intn(i+1)]
			}
		}
		inOrder := slices.SortedFunc(slices.Values(l), func(a, b api.Num) int { return index(a).Cmp(index(b)) })
		expect(t, "Least of many", num.Least(l...), inOrder[0])
		expect(t, "Most of many", num.Most(l...), inOrder[len(l)-1])
	}
}

// TestLeastAndMostWithNoughts has numbers that may not be among others: nought is answered in their place.
func TestLeastAndMostWithNoughts(t *testing.T) { // P5.4, the chapter's Words
	three, less := num.Of(3), num.Of(-7)
	for _, n := range mayNot() {
		expect(t, "Least of one that may not be", num.Least(n), api.Num{})
		expect(t, "Most of one that may not be", num.Most(n), api.Num{})
		expect(t, "Least, above it", num.Least(three, n, inf(false)), api.Num{})
		expect(t, "Most, below it", num.Most(n, less, inf(true)), api.Num{})
		expect(t, "Least, around it", num.Least(three, n, less), less)
		expect(t, "Most, around it", num.Most(less, n, three), three)
		expect(t, "Least of two", num.Least(n, n), api.Num{})
		expect(t, "Most of two", num.Most(n, n), api.Num{})
	}
}
