package dy_test

import (
	"math"
	"math/big"
	"math/rand"
	"slices"
	"testing"

	"pelorus/api"
	"pelorus/dy"
	"pelorus/whole"
)

func TestExamples(t *testing.T) { // the chapter's Examples
	expect(t, "Make(12, -3)", dy.Make(whole.From(12), -3), value{big.NewInt(3), -1})
	expect(t, "Add(1/2, 1/4)", dy.Add(of(1, -1), of(1, -2)), value{big.NewInt(3), -2})
	expectWhole(t, "Floor(-1/2)", dy.Floor(of(-1, -1)), big.NewInt(-1))
}

func TestMake(t *testing.T) { // P3.1, P3.4
	for _, d := range edges() {
		expect(t, "Make", dy.Make(d.N, d.E), modelOf(d))
	}
	r := rand.New(rand.NewSource(1))
	for range 20000 {
		n, e := someWhole(r, 4), someE(r)
		expect(t, "Make", dy.Make(n, e), canon(number(n), e))
	}
}

// TestMakeAtTheBounds goes to both bounds, one beyond each, and far beyond, with odd numbers and even ones: an even
// one's E is its own only once it is odd.
func TestMakeAtTheBounds(t *testing.T) { // P3.1
	for _, c := range []struct {
		n, e, wantN, wantE int
	}{
		{1, maxE, 1, maxE}, {-1, maxE, -1, maxE}, {7, maxE, 7, maxE},
		{1, maxE + 1, 0, 0}, {-7, maxE + 1, 0, 0}, {2, maxE + 1, 0, 0},
		{1, -maxE, 1, -maxE}, {-1, -maxE, -1, -maxE}, {7, -maxE, 7, -maxE},
		{1, -maxE - 1, 0, 0}, {-7, -maxE - 1, 0, 0},
		// Their E would be within the bounds, were e not beyond them.
		{2, -maxE - 1, 0, 0}, {4, -maxE - 1, 0, 0}, {-1 << 40, -maxE - 40, 0, 0}, {-1 << 40, -maxE - 1, 0, 0},
		// Their E ends within the bounds, or beyond them.
		{2, maxE - 1, 1, maxE}, {2, maxE, 0, 0}, {-2, maxE, 0, 0}, {4, maxE - 1, 0, 0}, {4, maxE - 2, 1, maxE},
		{6, maxE - 1, 3, maxE}, {6, maxE, 0, 0}, {-3 << 40, maxE - 40, -3, maxE}, {-3 << 40, maxE - 39, 0, 0},
		{math.MinInt64, maxE - 63, -1, maxE}, {math.MinInt64, maxE - 62, 0, 0},
		{2, -maxE, 1, 1 - maxE}, {-12, -maxE, -3, 2 - maxE}, {math.MinInt64, -maxE, -1, 63 - maxE},
		// Far beyond: sums of these may wrap round.
		{1, math.MaxInt64, 0, 0}, {1, math.MinInt64, 0, 0}, {-1, math.MaxInt64, 0, 0}, {-1, math.MinInt64, 0, 0},
		{2, math.MaxInt64, 0, 0}, {2, math.MinInt64, 0, 0}, {math.MinInt64, math.MaxInt64, 0, 0},
		{math.MinInt64, math.MinInt64, 0, 0}, {1, math.MaxInt32, 0, 0}, {1, math.MinInt32, 0, 0},
		{1, 1 << 32, 0, 0}, {1, -1 << 32, 0, 0}, {1, 1<<32 + 5, 0, 0},
		// Nought is nought, whatever e is.
		{0, 0, 0, 0}, {0, 5, 0, 0}, {0, -5, 0, 0}, {0, maxE, 0, 0}, {0, -maxE, 0, 0}, {0, math.MaxInt64, 0, 0},
		{0, math.MinInt64, 0, 0},
		{1, 0, 1, 0}, {2, 0, 1, 1}, {12, -3, 3, -1}, {-12, -2, -3, 0}, {12, 3, 3, 5}, {-96, 0, -3, 5},
	} {
		got := dy.Make(whole.From(c.n), c.e)
		expect(t, "Make", got, value{big.NewInt(int64(c.wantN)), c.wantE})
		if c.wantN == 0 && !isNoughts(got) {
			t.Errorf("Make(%d, %d): %v", c.n, c.e, got)
		}
	}
}

// TestMakeOfLongNumbers makes numbers of many limbs whose lowest ones are nought.
func TestMakeOfLongNumbers(t *testing.T) { // P3.1
	for _, low := range []int{0, 1, 31, 32, 33, 63, 64, 65, 1000, maxE - 1, maxE, maxE + 1, 2*maxE - 1, 2 * maxE, 2*maxE + 1} {
		n := new(big.Int).Lsh(big.NewInt(-5), uint(low))
		for _, e := range []int{-maxE, -maxE + 1, 0, maxE - low, maxE - low + 1, maxE} {
			expect(t, "Make", dy.Make(wholeOf(n), e), canon(n, e))
		}
	}
	for _, m := range [][]uint32{nil, {}, {0}, {0, 0, 0}} {
		for _, neg := range []bool{false, true} {
			for _, e := range []int{0, 1, -1, maxE, -maxE, maxE + 1, math.MaxInt64, math.MinInt64} {
				if got := dy.Make(api.Whole{Neg: neg, M: m}, e); !isNoughts(got) {
					t.Errorf("Make(%v %v, %d): %v", neg, m, e, got)
				}
			}
		}
	}
}

func TestMay(t *testing.T) { // P3.1
	for _, d := range edges() {
		if got := dy.May(d); got != mayBe(d) {
			t.Errorf("May(%v): %v", d, got)
		}
	}
	for _, d := range mayNot() {
		if dy.May(d) {
			t.Errorf("May(%v): true", d)
		}
	}
	for _, d := range []api.Dy{
		{}, {N: api.Whole{M: []uint32{}}}, raw(1, 0), raw(-1, 0), raw(1, maxE), raw(-1, maxE), raw(1, -maxE), raw(-1, -maxE),
		raw(math.MaxInt64, maxE), {N: api.Whole{M: []uint32{1, 0, 1 << 31}}, E: -maxE},
	} {
		if !dy.May(d) {
			t.Errorf("May(%v): false", d)
		}
	}
}

func TestSign(t *testing.T) { // P3.1
	for _, d := range edges() {
		if got, want := dy.Sign(d), modelOf(d).n.Sign(); got != want {
			t.Errorf("Sign(%v): %d, not %d", d, got, want)
		}
	}
	for _, e := range []int{0, 1, -1, 100, -100, maxE, -maxE} {
		if dy.Sign(of(-3, e)) != -1 || dy.Sign(of(3, e)) != 1 || dy.Sign(of(0, e)) != 0 {
			t.Errorf("Sign with exponent %d", e)
		}
	}
}

func TestCmp(t *testing.T) { // P3.1
	pairs(func(a, b api.Dy) {
		if got, want := dy.Cmp(a, b), compare(modelOf(a), modelOf(b)); got != want {
			t.Fatalf("Cmp(%v, %v): %d, not %d", a, b, got, want)
		}
		if got := dy.Cmp(a, a); got != 0 {
			t.Fatalf("Cmp(%v, the same): %d", a, got)
		}
	})
	near(func(a, b api.Dy) {
		if got, want := dy.Cmp(a, b), fraction(a).Cmp(fraction(b)); got != want {
			t.Fatalf("Cmp(%v, %v): %d, not %d", a, b, got, want)
		}
	})
}

// TestCmpInOrder has numbers from the least one on, with exponents as far apart as can be: each is less than all
// behind it. The difference of the first one and the last one is beyond the bounds.
func TestCmpInOrder(t *testing.T) { // P3.1
	var l []api.Dy
	for _, n := range []int{math.MaxInt64, 5, 3, 1} {
		l = append(l, of(-n, maxE))
	}
	l = append(l, of(-1, 70), of(-1<<62-1, 0), of(-7, 1), of(-13, 0), of(-3, 0), of(-5, -1), of(-1, 0), of(-3, -2), of(-1, -70))
	l = append(l, of(-3, -maxE), of(-1, -maxE), of(0, 0))
	for _, d := range slices.Backward(l[:len(l)-1]) {
		l = append(l, dy.Neg(d))
	}
	for i, a := range l {
		for k, b := range l {
			want := 0
			if i != k {
				want = 1 - 2*one(i < k)
			}
			if got := dy.Cmp(a, b); got != want {
				t.Errorf("Cmp(%v, %v): %d, not %d", a, b, got, want)
			}
		}
	}
}

func TestNeg(t *testing.T) { // P3.2
	for _, d := range edges() {
		v := modelOf(d)
		expect(t, "Neg", dy.Neg(d), value{new(big.Int).Neg(v.n), v.e})
		expect(t, "Neg of Neg", dy.Neg(dy.Neg(d)), v)
	}
	for _, e := range []int{0, 9, -9, maxE, -maxE} {
		expect(t, "Neg", dy.Neg(of(5, e)), value{big.NewInt(-5), e})
		expect(t, "Neg", dy.Neg(of(-5, e)), value{big.NewInt(5), e})
	}
}

func TestSub(t *testing.T) { // P3.2, P3.4
	pairs(func(a, b api.Dy) {
		v := modelOf(b)
		expect(t, "Sub", dy.Sub(a, b), sum(modelOf(a), value{new(big.Int).Neg(v.n), v.e}))
	})
	near(func(a, b api.Dy) {
		expectFraction(t, "Sub", dy.Sub(a, b), new(big.Rat).Sub(fraction(a), fraction(b)))
	})
	expect(t, "1 less 1/2", dy.Sub(of(1, 0), of(1, -1)), value{big.NewInt(1), -1})
	expect(t, "1/2 less 1", dy.Sub(of(1, -1), of(1, 0)), value{big.NewInt(-1), -1})
	// What is answered has an E within the bounds, or one beyond.
	expect(t, "3 less 1, at the upper bound", dy.Sub(of(3, maxE), of(1, maxE)), nought())
	expect(t, "3 less 1, below the upper bound", dy.Sub(of(3, maxE-1), of(1, maxE-1)), value{big.NewInt(1), maxE})
	expect(t, "1 less -1, at the upper bound", dy.Sub(of(1, maxE), of(-1, maxE)), nought())
	expect(t, "3 less 1, at the lower bound", dy.Sub(of(3, -maxE), of(1, -maxE)), value{big.NewInt(1), 1 - maxE})
	if got := dy.Sub(of(3, maxE), of(3, maxE)); !isNoughts(got) {
		t.Errorf("Sub of the same: %v", got)
	}
}

func TestMul(t *testing.T) { // P3.2, P3.4
	pairs(func(a, b api.Dy) {
		expect(t, "Mul", dy.Mul(a, b), product(modelOf(a), modelOf(b)))
	})
	near(func(a, b api.Dy) {
		expectFraction(t, "Mul", dy.Mul(a, b), new(big.Rat).Mul(fraction(a), fraction(b)))
	})
}

func TestMulAtTheBounds(t *testing.T) { // P3.2
	for _, c := range []struct{ a, b, want int }{
		{maxE, 0, maxE}, {maxE, -1, maxE - 1}, {maxE - 1, 1, maxE}, {maxE / 2, maxE / 2, maxE},
		{-maxE, 0, -maxE}, {-maxE, 1, 1 - maxE}, {1 - maxE, -1, -maxE}, {-maxE / 2, -maxE / 2, -maxE},
		{maxE, -maxE, 0}, {-maxE, maxE, 0}, {0, 0, 0},
	} {
		expect(t, "Mul", dy.Mul(of(-3, c.a), of(5, c.b)), value{big.NewInt(-15), c.want})
	}
	for _, c := range [][2]int{
		{maxE, 1}, {1, maxE}, {maxE, maxE}, {maxE / 2, maxE/2 + 1}, {-maxE, -1}, {-1, -maxE}, {-maxE, -maxE}, {-maxE / 2, -maxE/2 - 1},
	} {
		if got := dy.Mul(of(-3, c[0]), of(5, c[1])); !isNoughts(got) {
			t.Errorf("Mul with exponents %d, %d: %v", c[0], c[1], got)
		}
	}
	for _, e := range []int{0, maxE, -maxE} {
		if got := dy.Mul(of(-3, e), api.Dy{}); !isNoughts(got) {
			t.Errorf("Mul with nought: %v", got)
		}
		if got := dy.Mul(api.Dy{}, of(-3, e)); !isNoughts(got) {
			t.Errorf("Mul of nought: %v", got)
		}
	}
}

func TestAdd(t *testing.T) { // P3.2, P3.4
	if got := dy.Add(); !isNoughts(got) {
		t.Errorf("Add of none: %v", got)
	}
	if got := dy.Add([]api.Dy{}...); !isNoughts(got) {
		t.Errorf("Add of an empty list: %v", got)
	}
	for _, d := range edges() {
		expect(t, "Add of one", dy.Add(d), modelOf(d))
	}
	pairs(func(a, b api.Dy) {
		expect(t, "Add of two", dy.Add(a, b), sum(modelOf(a), modelOf(b)))
	})
	near(func(a, b api.Dy) {
		expectFraction(t, "Add of two", dy.Add(a, b), new(big.Rat).Add(fraction(a), fraction(b)))
	})
}

func TestAddOfMany(t *testing.T) { // P3.2, P3.4
	r := rand.New(rand.NewSource(2))
	for range 2000 {
		l := make([]api.Dy, r.Intn(12))
		exact := new(big.Rat)
		for i := range l {
			l[i] = someNear(r)
			if i > 0 && r.Intn(4) == 0 {
				l[i] = dy.Neg(l[i-1])
			}
			exact.Add(exact, fraction(l[i]))
		}
		expectFraction(t, "Add of many", dy.Add(l...), exact)
	}
	for range 200 {
		l := make([]api.Dy, r.Intn(8))
		for i := range l {
			l[i] = raw(r.Intn(9)-4, someE(r))
		}
		expect(t, "Add of many, far apart", dy.Add(l...), sum(models(l)...))
	}
	var ones []api.Dy
	for n := range 300 {
		expectFraction(t, "Add of halves", dy.Add(ones...), big.NewRat(int64(n), 2))
		ones = append(ones, of(1, -1))
	}
}

// TestAddIsNoughtOnTheWay has sums that are nought on the way, since the numbers are opposites, or since the E of
// a sum on the way is beyond the bounds: what comes behind is added to nought.
func TestAddIsNoughtOnTheWay(t *testing.T) { // P3.2, P3.4
	high, low := of(1, maxE), of(1, -maxE)
	minus := dy.Neg(high)
	for _, c := range []struct {
		name string
		l    []api.Dy
		want api.Dy
	}{
		{"opposites, and one", []api.Dy{of(5, 0), of(-5, 0), of(3, -1)}, of(3, -1)},
		{"one, and opposites", []api.Dy{of(3, -1), of(5, 0), of(-5, 0)}, of(3, -1)},
		{"opposites, and none", []api.Dy{of(5, 7), of(-5, 7)}, api.Dy{}},
		{"opposites twice", []api.Dy{of(5, 7), of(-5, 7), of(-1, 3), of(1, 3)}, api.Dy{}},
		{"noughts", []api.Dy{{}, {}, {}}, api.Dy{}},
		{"noughts between", []api.Dy{{}, of(3, 2), {}, of(1, 0), {}}, of(13, 0)},
		{"far apart", []api.Dy{of(1, 100), of(1, 0), of(-1, 100)}, of(1, 0)},
		{"as far apart as can be", []api.Dy{high, low, minus}, low},
		{"as far apart as can be, the other way round", []api.Dy{low, high, minus, dy.Neg(low)}, api.Dy{}},
		{"beyond on the way", []api.Dy{high, high, of(3, 0)}, of(3, 0)},
		{"beyond on the way, and one of them back", []api.Dy{high, high, minus}, minus},
		{"beyond on the way below nought", []api.Dy{minus, minus, high, of(3, 0), minus}, of(3, 0)},
		{"beyond at the end", []api.Dy{of(3, 0), of(-3, 0), high, high}, api.Dy{}},
		{"beyond, but not from the first one on", []api.Dy{high, minus, high}, high},
		{"three at the bound", []api.Dy{of(1, maxE), of(3, maxE), of(1, maxE)}, of(1, maxE)},
		{"below the bound", []api.Dy{of(1, maxE-1), of(1, maxE-1)}, of(1, maxE)},
		{"below the bound, and once more", []api.Dy{of(1, maxE-1), of(1, maxE-1), of(1, maxE-1)}, of(3, maxE-1)},
		{"long, and beyond", []api.Dy{of(1, maxE), of(1, -maxE), of(1, maxE), of(-1, -maxE)}, api.Dy{}},
	} {
		got := dy.Add(c.l...)
		expect(t, c.name, got, modelOf(c.want))
		expect(t, c.name, got, sum(models(c.l)...))
	}
}

func TestMove(t *testing.T) { // P3.2, P3.4
	moves := []int{
		0, 1, -1, 2, -2, 63, -63, 64, -64, maxE - 1, maxE, maxE + 1, 1 - maxE, -maxE, -1 - maxE, 2*maxE - 1, 2 * maxE, 2*maxE + 1,
		1 - 2*maxE, -2 * maxE, -1 - 2*maxE, math.MaxInt32, math.MinInt32, 1 << 32, -1 << 32, 1 << 62, -1 << 62,
		math.MaxInt64, math.MinInt64, math.MaxInt64 - maxE, math.MinInt64 + maxE, math.MaxInt64 - maxE + 1, math.MinInt64 + maxE - 1,
	}
	for _, d := range edges() {
		v := modelOf(d)
		for _, n := range moves {
			want := nought()
			if to := new(big.Int).Add(big.NewInt(int64(n)), big.NewInt(int64(v.e))); to.IsInt64() {
				want = canon(v.n, int(to.Int64()))
			}
			expect(t, "Move", dy.Move(d, n), want)
		}
	}
	expect(t, "5 by -2", dy.Move(of(5, 0), -2), value{big.NewInt(5), -2})
	expect(t, "from bound to bound", dy.Move(of(5, -maxE), 2*maxE), value{big.NewInt(5), maxE})
	expect(t, "from bound to bound, down", dy.Move(of(5, maxE), -2*maxE), value{big.NewInt(5), -maxE})
	if got := dy.Move(of(5, -maxE), 2*maxE+1); !isNoughts(got) {
		t.Errorf("beyond the other bound: %v", got)
	}
	if got := dy.Move(api.Dy{}, 5); !isNoughts(got) {
		t.Errorf("Move of nought: %v", got)
	}
}

func TestFloor(t *testing.T) { // P3.3
	for _, d := range edges() {
		expectWhole(t, "Floor", dy.Floor(d), floor(modelOf(d)))
	}
	near(func(a, _ api.Dy) {
		expectWhole(t, "Floor", dy.Floor(a), floor(modelOf(a)))
	})
	for n := -200; n <= 200; n++ {
		for e := -10; e <= 10; e++ {
			expectWhole(t, "Floor of a small one", dy.Floor(of(n, e)), floor(value{big.NewInt(int64(n)), e}))
		}
	}
	for _, c := range []struct{ n, e, want int }{
		{5, -1, 2}, {-5, -1, -3}, {4, -1, 2}, {-4, -1, -2}, {1, -1, 0}, {-1, -1, -1}, {7, 0, 7}, {-7, 0, -7}, {7, 3, 56}, {-7, 3, -56},
		{1, -maxE, 0}, {-1, -maxE, -1}, {math.MaxInt64, -maxE, 0}, {math.MinInt64 + 1, -maxE, -1}, {0, 0, 0},
		{math.MaxInt64, -62, 1}, {math.MinInt64 + 1, -62, -2}, {math.MaxInt64, -63, 0}, {math.MinInt64 + 1, -63, -1},
	} {
		expectWhole(t, "Floor", dy.Floor(of(c.n, c.e)), big.NewInt(int64(c.want)))
	}
	for _, n := range []int{3, -3} {
		expectWhole(t, "Floor at the upper bound", dy.Floor(of(n, maxE)), new(big.Int).Lsh(big.NewInt(int64(n)), maxE))
	}
}

// TestFloorOfLimbs cuts at the edges of limbs, also where all limbs that are left are full: one more goes beyond them.
func TestFloorOfLimbs(t *testing.T) { // P3.3
	for _, m := range [][]uint32{{1, top, top}, {top, top, top}, {1, 0, 1}, {1, 1}, {1<<31 + 1, 0, 5}, {top, 0, 1 << 31}} {
		for _, neg := range []bool{false, true} {
			for _, e := range []int{-1, -16, -31, -32, -33, -63, -64, -65, -95, -96, -97, -1000} {
				d := api.Dy{N: api.Whole{Neg: neg, M: m}, E: e}
				expectWhole(t, "Floor", dy.Floor(d), floor(modelOf(d)))
			}
		}
	}
}
