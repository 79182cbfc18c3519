package arith_test

import (
	"math"
	"math/rand"
	"testing"

	"pelorus/api"
	"pelorus/arith"
	"pelorus/dy"
	"pelorus/num"
	"pelorus/sample"
)

// expectAdd fails the test unless lo and hi are the sum of two numbers to both sides, in either order, and that of
// their opposites is the opposite, and so with Sub.
func expectAdd(t *testing.T, what string, a, b, lo, hi api.Num) {
	t.Helper()
	for _, c := range []struct {
		a, b, lo, hi api.Num
	}{{a, b, lo, hi}, {b, a, lo, hi}, {minus(a), minus(b), minus(hi), minus(lo)}, {minus(b), minus(a), minus(hi), minus(lo)}} {
		expect(t, what+": Add, not up", arith.Add(c.a, c.b, false), c.lo)
		expect(t, what+": Add, up", arith.Add(c.a, c.b, true), c.hi)
		expect(t, what+": Sub, not up", arith.Sub(c.a, minus(c.b), false), c.lo)
		expect(t, what+": Sub, up", arith.Sub(c.a, minus(c.b), true), c.hi)
	}
}

// checkAdd holds the sum of two numbers, neither of them infinite, against the library's.
func checkAdd(t *testing.T, a, b api.Num) {
	t.Helper()
	v := plus(exactly(a), exactly(b))
	expectAdd(t, "as the library's", a, b, rounded(v, false), rounded(v, true))
	checkSides(t, "Add", v, arith.Add(a, b, false), arith.Add(a, b, true))
	if t.Failed() {
		t.Fatalf("at Add(%v, %v)", a, b)
	}
}

func TestAddOfTheChapter(t *testing.T) { // the chapter's Examples
	one := num.Of(1)
	expect(t, "Add(1, 2^-70, up)", arith.Add(one, power(-70), true), pos(high+1, -63))
	expect(t, "Add(1, 2^-70, not up)", arith.Add(one, power(-70), false), one)
}

// TestAddAtTheEdges has sums and differences written out.
func TestAddAtTheEdges(t *testing.T) { // P6.1
	two64, bit := power(64), power(0)
	for _, c := range []struct {
		name         string
		a, b, lo, hi api.Num
	}{
		{"few bits", num.Of(5), num.Of(7), num.Of(12), num.Of(12)},
		{"few bits, of two signs", num.Of(5), num.Of(-7), num.Of(-2), num.Of(-2)},
		{"64 bits", num.Of(math.MaxInt64), pos(high, 0), pos(full, 0), pos(full, 0)},
		{"65 bits, the last one nought", pos(full-1, 0), pos(high, 0), pos(3<<62-1, 1), pos(3<<62-1, 1)},
		{"65 bits", pos(full, 0), pos(high, 0), pos(3<<62-1, 1), pos(3<<62, 1)},
		{"65 bits, carried", pos(full, 0), pos(full, 0), pos(full, 1), pos(full, 1)},
		{"66 bits", pos(full, 1), bit, pos(full, 1), pos(high, 2)},
		{"66 bits, carried", pos(full, 1), num.Of(3), pos(high, 2), pos(high+1, 2)},
		{"to the next power of two", pos(full, 0), bit, two64, two64},
		{"half way to the next power of two", pos(full, 0), power(-1), pos(full, 0), two64},
		{"just beyond the next power of two", pos(full, 0), pos(3<<62, -63), two64, pos(high+1, 1)},
		{"65 apart", power(65), bit, power(65), pos(high+1, 2)},
		{"64 apart", power(64), bit, power(64), pos(high+1, 1)},
		{"63 apart", power(63), bit, pos(high+1, 0), pos(high+1, 0)},
		{"a bit less, 65 apart", power(65), minus(bit), pos(full, 1), power(65)},
		{"a bit less, 64 apart", power(64), minus(bit), pos(full, 0), pos(full, 0)},
		{"a bit less, 128 apart", power(128), minus(bit), pos(full, 64), power(128)},
		{"more than a bit less, 65 apart", power(65), minus(num.Of(3)), pos(full-1, 1), pos(full, 1)},
		{"neighbours", pos(high+1, 0), fin(true, high, 0), bit, bit},
		{"neighbours beside a power of two", two64, fin(true, full, 0), bit, bit},
		{"nearly the same, of 64 bits", pos(full, 7), fin(true, full-2, 7), power(8), power(8)},
		{"nearly the same, of two E", pos(high+1, 1), fin(true, full, 0), num.Of(3), num.Of(3)},
		{"the same", pos(full, 5), fin(true, full, 5), api.Num{}, api.Num{}},
		{"the Tiny and its opposite", tiny(false), tiny(true), api.Num{}, api.Num{}},
		{"the Huge and its opposite", huge(false), huge(true), api.Num{}, api.Num{}},
		{"nought and nought", api.Num{}, api.Num{}, api.Num{}, api.Num{}},
		{"1 and the Tiny", bit, tiny(false), bit, pos(high+1, -63)},
		{"1 less the Tiny", bit, tiny(true), pos(full, -64), bit},
		{"the Tiny twice", tiny(false), tiny(false), pos(high, minE+1), pos(high, minE+1)},
		{"a part of the Tiny", pos(high+1, minE), tiny(true), api.Num{}, tiny(false)},
		{"nearly the Tiny", pos(full, minE), tiny(true), api.Num{}, tiny(false)},
		{"a part of the Tiny, of two E", pos(high, minE+1), fin(true, full, minE), api.Num{}, tiny(false)},
		{"the Tiny, left of more", pos(high, minE+1), tiny(true), tiny(false), tiny(false)},
		{"the Huge twice", huge(false), huge(false), huge(false), inf(false)},
		{"the Huge and the Tiny", huge(false), tiny(false), huge(false), inf(false)},
		{"the Huge less the Tiny", huge(false), tiny(true), pos(full-1, maxE), huge(false)},
		{"the Huge and its last bit", huge(false), power(maxE), huge(false), inf(false)},
		{"the Huge and a half of that", huge(false), power(maxE - 1), huge(false), inf(false)},
		{"up to the Huge", pos(high, maxE), pos(full-1, maxE-1), huge(false), huge(false)},
		{"two halves beyond the Huge", pos(high, maxE), pos(high, maxE), huge(false), inf(false)},
		{"half way from ahead of the Huge to it", pos(full-1, maxE), power(maxE - 1), pos(full-1, maxE), huge(false)},
	} {
		expectAdd(t, c.name, c.a, c.b, c.lo, c.hi)
	}
}

// apart are distances of exponents at which bits are in either word, at the border, or behind.
func apart() []int {
	return []int{0, 1, 2, 3, 31, 32, 33, 61, 62, 63, 64, 65, 66, 67, 96, 125, 126, 127, 128, 129, 130, 191, 192, 193, 500}
}

func TestAddOfEachDistance(t *testing.T) { // P6.1, P6.4
	for _, d := range apart() {
		for _, e := range []int{minE + d, minE + d + 1, -63, maxE - 1, maxE} {
			for _, m := range sample.Words() {
				for _, n := range sample.Words() {
					checkAdd(t, pos(m, e), pos(n, e-d))
					checkAdd(t, pos(m, e), fin(true, n, e-d))
				}
			}
		}
	}
}

func TestAddOfFarApart(t *testing.T) { // P6.1, P6.4
	for _, e := range [][2]int{{maxE, minE}, {maxE - 1, minE}, {maxE, minE + 1}, {maxE, 0}, {0, minE}} {
		for _, m := range []uint64{high, high + 1, full} {
			for _, n := range []uint64{high, full} {
				checkAdd(t, pos(m, e[0]), pos(n, e[1]))
				checkAdd(t, pos(m, e[0]), fin(true, n, e[1]))
			}
		}
	}
}

// TestAddOfOneBitBehind has numbers with noughts at the end, so that the last bit of the nearer one is the last one
// that 128 bits have, or the first one behind.
func TestAddOfOneBitBehind(t *testing.T) { // P6.1, P6.4
	for low := range 64 {
		m := uint64(1)<<low | high
		for d := low + 55; d < low+70; d++ {
			for _, n := range sample.Words() {
				checkAdd(t, pos(n, 0), pos(m, -d))
				checkAdd(t, pos(n, 0), fin(true, m, -d))
			}
		}
	}
}

func TestAddOfMany(t *testing.T) { // P6.1, P6.4
	r := rand.New(rand.NewSource(1))
	for range 20000 {
		a := sample.Num(r)
		e := min(max(a.E+r.Intn(280)-140, minE), maxE)
		checkAdd(t, a, fin(r.Intn(2) == 0, sample.Word(r), e))
	}
}

// TestAddOfNearlyTheSame has differences that lose all their highest bits but few, or none, or all.
func TestAddOfNearlyTheSame(t *testing.T) { // P6.1, P6.4
	r := rand.New(rand.NewSource(2))
	for range 20000 {
		a := sample.Num(r)
		b := a
		for range r.Intn(4) {
			b = num.Next(b, r.Intn(2) == 0)
		}
		if b.Kind != api.Finite {
			continue
		}
		checkAdd(t, a, minus(b))
		if b.M -= uint64(r.Intn(5)) << r.Intn(60); b.M >= high {
			checkAdd(t, a, minus(b))
		}
	}
}

// TestAddAsRound has the promise to the letter: what num's Round of the exact sum is.
func TestAddAsRound(t *testing.T) { // P6.1
	r := rand.New(rand.NewSource(3))
	for range 3000 {
		a, b := sample.Num(r), sample.Num(r)
		b.E = min(max(a.E+r.Intn(280)-140, minE), maxE)
		x, _ := num.Exact(a)
		y, _ := num.Exact(b)
		for _, up := range []bool{false, true} {
			expect(t, "Add as Round", arith.Add(a, b, up), num.Round(dy.Add(x, y), up))
			expect(t, "Sub as Round", arith.Sub(a, b, up), num.Round(dy.Sub(x, y), up))
		}
	}
}

func TestAddOfNought(t *testing.T) { // P6.1
	for _, n := range sample.Row() {
		expectAdd(t, "with nought", n, api.Num{}, n, n)
	}
}

func TestAddOfInfinite(t *testing.T) { // P6.1
	for _, n := range sample.Row() {
		if n != inf(true) {
			expectAdd(t, "with infinite", n, inf(false), inf(false), inf(false))
		}
		if n != inf(false) {
			expectAdd(t, "with infinite below", n, inf(true), inf(true), inf(true))
		}
	}
	expectAdd(t, "infinite ones of two signs", inf(false), inf(true), inf(true), inf(false))
	expect(t, "Sub of two infinite ones, up", arith.Sub(inf(false), inf(false), true), inf(false))
	expect(t, "Sub of two infinite ones, not up", arith.Sub(inf(false), inf(false), false), inf(true))
	expect(t, "Sub of two infinite ones below, up", arith.Sub(inf(true), inf(true), true), inf(false))
	expect(t, "Sub of two infinite ones below, not up", arith.Sub(inf(true), inf(true), false), inf(true))
}

// TestSub has differences in which the order counts.
func TestSub(t *testing.T) { // P6.1
	expect(t, "5 less 7", arith.Sub(num.Of(5), num.Of(7), true), num.Of(-2))
	expect(t, "7 less 5", arith.Sub(num.Of(7), num.Of(5), false), num.Of(2))
	expect(t, "-7 less 5", arith.Sub(num.Of(-7), num.Of(5), false), num.Of(-12))
	expect(t, "nought less 3", arith.Sub(api.Num{}, num.Of(3), true), num.Of(-3))
	expect(t, "1 less 2^-70, up", arith.Sub(num.Of(1), power(-70), true), num.Of(1))
	expect(t, "1 less 2^-70, not up", arith.Sub(num.Of(1), power(-70), false), pos(full, -64))
	expect(t, "2^-70 less 1, up", arith.Sub(power(-70), num.Of(1), true), fin(true, full, -64))
	expect(t, "2^-70 less 1, not up", arith.Sub(power(-70), num.Of(1), false), num.Of(-1))
}

func TestAddRises(t *testing.T) { // P6.4
	l := sample.Row()
	for _, c := range sample.Few() {
		for i := range l[1:] {
			for _, up := range []bool{false, true} {
				if num.Cmp(arith.Add(l[i], c, up), arith.Add(l[i+1], c, up)) > 0 {
					t.Errorf("Add(%v, %v), up %v: greater than that of %v", l[i], c, up, l[i+1])
				}
				if num.Cmp(arith.Sub(c, l[i], up), arith.Sub(c, l[i+1], up)) < 0 {
					t.Errorf("Sub(%v, %v), up %v: less than that of %v", c, l[i], up, l[i+1])
				}
			}
		}
	}
}
