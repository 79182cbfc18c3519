package arith_test

import (
	"math/rand"
	"testing"

	"pelorus/api"
	"pelorus/arith"
	"pelorus/dy"
	"pelorus/num"
	"pelorus/sample"
)

// expectMul fails the test unless lo and hi are the product of two numbers to both sides, in either order, and that
// with one opposite is the opposite, and that of two opposites the same.
func expectMul(t *testing.T, what string, a, b, lo, hi api.Num) {
	t.Helper()
	for _, c := range []struct {
		a, b, lo, hi api.Num
	}{{a, b, lo, hi}, {b, a, lo, hi}, {minus(a), minus(b), lo, hi}, {minus(a), b, minus(hi), minus(lo)}, {a, minus(b), minus(hi), minus(lo)}} {
		expect(t, what+": Mul, not up", arith.Mul(c.a, c.b, false), c.lo)
		expect(t, what+": Mul, up", arith.Mul(c.a, c.b, true), c.hi)
	}
}

// checkMul holds the product of two numbers, neither of them infinite, against the library's.
func checkMul(t *testing.T, a, b api.Num) {
	t.Helper()
	v := times(exactly(a), exactly(b))
	expectMul(t, "as the library's", a, b, rounded(v, false), rounded(v, true))
	checkSides(t, "Mul", v, arith.Mul(a, b, false), arith.Mul(a, b, true))
	if t.Failed() {
		t.Fatalf("at Mul(%v, %v)", a, b)
	}
}

func TestMulOfTheChapter(t *testing.T) { // the chapter's Examples
	for _, up := range []bool{false, true} {
		expect(t, "Mul(infinite, -2)", arith.Mul(inf(false), num.Of(-2), up), inf(true))
	}
}

// TestMulAtTheEdges has products written out.
func TestMulAtTheEdges(t *testing.T) { // P6.2
	// The product of these has 127 bits, all set but the last one.
	x, y := pos(high+1, 0), uint64(full-1)
	for _, c := range []struct {
		name         string
		a, b, lo, hi api.Num
	}{
		{"few bits", num.Of(6), num.Of(7), num.Of(42), num.Of(42)},
		{"64 bits", num.Of(1<<32 - 1), num.Of(1<<32 + 1), pos(full, 0), pos(full, 0)},
		{"65 bits", num.Of(1<<32 + 1), num.Of(1<<32 + 1), pos(high+1<<32, 1), pos(high+1<<32+1, 1)},
		{"127 bits", x, x, pos(high+2, 63), pos(high+3, 63)},
		{"127 bits, all but one set", x, pos(y, 0), pos(full, 63), power(127)},
		{"127 bits, the lower ones nought", pos(3<<62, 0), pos(0xaaaaaaaaaaaaaaaa, 0), pos(full, 63), pos(full, 63)},
		{"128 bits", pos(full, 0), pos(full, 0), pos(full-1, 64), pos(full, 64)},
		{"128 bits, the lower ones nought", pos(3<<62, 0), pos(3<<62, 0), pos(9<<60, 64), pos(9<<60, 64)},
		{"the Huge and the Tiny", huge(false), tiny(false), pos(full, 63), pos(full, 63)},
		{"the Huge twice", huge(false), huge(false), huge(false), inf(false)},
		{"the Huge and 2", huge(false), num.Of(2), huge(false), inf(false)},
		{"the Huge and the next one above 1", huge(false), pos(high+1, -63), huge(false), inf(false)},
		{"the Huge and the next one below 1", huge(false), pos(full, -64), pos(full-1, maxE), huge(false)},
		{"to beyond the Huge", pos(high, maxE), num.Of(2), huge(false), inf(false)},
		{"to the greatest power of two", pos(high, maxE-1), num.Of(2), pos(high, maxE), pos(high, maxE)},
		{"to just beyond the Huge", x, pos(y, maxE-63), huge(false), inf(false)},
		{"to ahead of the greatest power of two", x, pos(y, maxE-64), pos(full, maxE-1), pos(high, maxE)},
		{"to the Huge", pos(3<<62, 0), pos(0xaaaaaaaaaaaaaaaa, maxE-63), huge(false), huge(false)},
		{"the Tiny twice", tiny(false), tiny(false), api.Num{}, tiny(false)},
		{"the Tiny and the next one above 1", tiny(false), pos(high+1, -63), pos(high+1, minE), pos(high+1, minE)},
		{"the Tiny and the next one below 1", tiny(false), pos(full, -64), api.Num{}, tiny(false)},
		{"to the Tiny", pos(high, minE+1), power(-1), tiny(false), tiny(false)},
		{"to just below the Tiny", pos(high+1, -64), pos(y, minE), api.Num{}, tiny(false)},
		{"to just below the power of two beyond the Tiny", pos(high+1, -63), pos(y, minE), pos(full, minE), pos(high, minE+1)},
	} {
		expectMul(t, c.name, c.a, c.b, c.lo, c.hi)
	}
}

// sums are two exponents each, which make those of products within the bounds, at them, and beyond.
func sums() [][2]int {
	return [][2]int{
		{0, 0}, {-63, -63}, {5, -900}, {maxE, minE}, {maxE, -63}, {maxE, -64}, {maxE, -65}, {maxE - 32, -31}, {1 << 19, 1<<19 - 63},
		{1 << 19, 1<<19 - 64}, {maxE, maxE}, {minE, -62}, {minE, -63}, {minE, -64}, {minE, -65}, {minE + 1, -65}, {minE + 30, -94},
		{-1 << 19, -1<<19 - 63}, {-1 << 19, -1<<19 - 64}, {minE, minE},
	}
}

func TestMulOfEachExponent(t *testing.T) { // P6.2, P6.4
	for _, e := range sums() {
		for _, m := range sample.Words() {
			for _, n := range sample.Words() {
				checkMul(t, pos(m, e[0]), pos(n, e[1]))
			}
		}
	}
}

func TestMulOfMany(t *testing.T) { // P6.2, P6.4
	r := rand.New(rand.NewSource(4))
	for range 20000 {
		a := fin(r.Intn(2) == 0, sample.Word(r), r.Intn(200)-100)
		checkMul(t, a, fin(r.Intn(2) == 0, sample.Word(r), r.Intn(200)-100))
	}
	for range 300 {
		checkMul(t, sample.Num(r), sample.Num(r))
	}
}

// TestMulAsRound has the promise to the letter: what num's Round of the exact product is.
func TestMulAsRound(t *testing.T) { // P6.2
	r := rand.New(rand.NewSource(5))
	for range 3000 {
		a, b := sample.Num(r), sample.Num(r)
		x, _ := num.Exact(a)
		y, _ := num.Exact(b)
		for _, up := range []bool{false, true} {
			expect(t, "Mul as Round", arith.Mul(a, b, up), num.Round(dy.Mul(x, y), up))
		}
	}
}

func TestMulByNought(t *testing.T) { // P6.2
	for _, n := range sample.Row() {
		for _, up := range []bool{false, true} {
			expect(t, "by nought", arith.Mul(n, api.Num{}, up), api.Num{})
			expect(t, "nought by one", arith.Mul(api.Num{}, n, up), api.Num{})
		}
	}
}

func TestMulByPowersOfTwo(t *testing.T) { // P6.2
	for _, n := range sample.Row() {
		expectMul(t, "by 1", n, num.Of(1), n, n)
		if n.Kind != api.Finite {
			continue
		}
		for _, k := range []int{1, -1, 2, -2, 31, -32, 63, -63, 64, -64, 65, -65, 1000, -1000, maxE, minE + 63} {
			if e := n.E + k; minE <= e && e <= maxE {
				expectMul(t, "by a power of two", n, power(k), fin(n.Neg, n.M, e), fin(n.Neg, n.M, e))
			}
		}
	}
}

func TestMulOfInfinite(t *testing.T) { // P6.2
	for _, n := range sample.Row() {
		if n.Kind == api.Zero {
			continue // see TestMulByNought
		}
		expectMul(t, "with infinite", n, inf(false), inf(n.Neg), inf(n.Neg))
		expectMul(t, "with infinite below", n, inf(true), inf(!n.Neg), inf(!n.Neg))
	}
}

// TestMulRises has greater numbers times one that is not below nought.
func TestMulRises(t *testing.T) { // P6.4
	l := sample.Row()
	for _, c := range sample.Few() {
		if c.Neg {
			continue
		}
		for i := range l[1:] {
			for _, up := range []bool{false, true} {
				if num.Cmp(arith.Mul(l[i], c, up), arith.Mul(l[i+1], c, up)) > 0 {
					t.Errorf("Mul(%v, %v), up %v: greater than that of %v", l[i], c, up, l[i+1])
				}
			}
		}
	}
}

// expectBoth fails the test unless a number's half, or what is twice it, is lo and hi, and its opposite's likewise.
func expectBoth(t *testing.T, what string, do func(a api.Num, up bool) api.Num, n, lo, hi api.Num) {
	t.Helper()
	expect(t, what+", not up", do(n, false), lo)
	expect(t, what+", up", do(n, true), hi)
	expect(t, what+" of the opposite, not up", do(minus(n), false), minus(hi))
	expect(t, what+" of the opposite, up", do(minus(n), true), minus(lo))
}

func TestHalf(t *testing.T) { // P6.3
	none, least := api.Num{}, tiny(false)
	for _, c := range []struct{ n, lo, hi api.Num }{
		{none, none, none}, {inf(false), inf(false), inf(false)},
		{num.Of(6), num.Of(3), num.Of(3)}, {num.Of(1), power(-1), power(-1)}, {num.Of(7), pos(7<<61, -62), pos(7<<61, -62)},
		{least, none, least}, {pos(high+1, minE), none, least}, {pos(full, minE), none, least},
		{pos(high, minE+1), least, least}, {pos(high+1, minE+1), pos(high+1, minE), pos(high+1, minE)},
		{pos(full, minE+1), pos(full, minE), pos(full, minE)}, {pos(full, minE+2), pos(full, minE+1), pos(full, minE+1)},
		{huge(false), pos(full, maxE-1), pos(full, maxE-1)}, {pos(high, maxE), pos(high, maxE-1), pos(high, maxE-1)},
		{pos(full-1, maxE-1), pos(full-1, maxE-2), pos(full-1, maxE-2)},
	} {
		expectBoth(t, "Half", arith.Half, c.n, c.lo, c.hi)
	}
	for _, n := range sample.Row() {
		expectBoth(t, "Half as Mul", arith.Half, n, arith.Mul(n, pos(high, -64), false), arith.Mul(n, pos(high, -64), true))
	}
}

func TestTwice(t *testing.T) { // P6.3
	none, most := api.Num{}, huge(false)
	for _, c := range []struct{ n, lo, hi api.Num }{
		{none, none, none}, {inf(false), inf(false), inf(false)},
		{num.Of(3), num.Of(6), num.Of(6)}, {power(-1), num.Of(1), num.Of(1)},
		{tiny(false), pos(high, minE+1), pos(high, minE+1)}, {pos(full, minE), pos(full, minE+1), pos(full, minE+1)},
		{pos(high+1, minE+1), pos(high+1, minE+2), pos(high+1, minE+2)},
		{most, most, inf(false)}, {pos(high, maxE), most, inf(false)}, {pos(high+1, maxE), most, inf(false)}, {pos(full-1, maxE), most, inf(false)},
		{pos(full, maxE-1), most, most}, {pos(high, maxE-1), pos(high, maxE), pos(high, maxE)},
		{pos(full-1, maxE-1), pos(full-1, maxE), pos(full-1, maxE)}, {pos(full, maxE-2), pos(full, maxE-1), pos(full, maxE-1)},
	} {
		expectBoth(t, "Twice", arith.Twice, c.n, c.lo, c.hi)
	}
	for _, n := range sample.Row() {
		expectBoth(t, "Twice as Mul", arith.Twice, n, arith.Mul(n, pos(high, -62), false), arith.Mul(n, pos(high, -62), true))
		expectBoth(t, "Twice as Add", arith.Twice, n, arith.Add(n, n, false), arith.Add(n, n, true))
	}
}
