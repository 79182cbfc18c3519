package quot_test

import (
	"math/rand"
	"testing"

	"pelorus/api"
	"pelorus/arith"
	"pelorus/num"
	"pelorus/quot"
	"pelorus/sample"
)

// expectDiv fails the test unless lo and hi are the quotient of two numbers, to both sides, and that with one opposite
// is the opposite, and that of two opposites the same.
func expectDiv(t *testing.T, what string, a, b, lo, hi api.Num) {
	t.Helper()
	for _, c := range []struct {
		a, b, lo, hi api.Num
	}{{a, b, lo, hi}, {minus(a), minus(b), lo, hi}, {minus(a), b, minus(hi), minus(lo)}, {a, minus(b), minus(hi), minus(lo)}} {
		expect(t, what+", not up", quot.Div(c.a, c.b, false), c.lo)
		expect(t, what+", up", quot.Div(c.a, c.b, true), c.hi)
	}
}

// checkDiv holds the quotient of two finite numbers against the library's.
func checkDiv(t *testing.T, a, b api.Num) {
	t.Helper()
	lo, hi := quot.Div(a, b, false), quot.Div(a, b, true)
	checkValue(t, byNum(a, b), lo, hi)
	expectDiv(t, "as that of other signs", a, b, lo, hi)
	checkBack(t, a, b, lo, hi)
	if t.Failed() {
		t.Fatalf("at Div(%v, %v)", a, b)
	}
}

// checkBack holds that the quotient to below, times the divisor, is not beyond the number, nor that to above short of
// it; for a divisor below nought the two change places.
func checkBack(t *testing.T, a, b, lo, hi api.Num) { // P7.4
	t.Helper()
	if num.Sign(b) < 0 {
		lo, hi = hi, lo
	}
	if num.Cmp(arith.Mul(lo, b, false), a) > 0 || num.Cmp(arith.Mul(hi, b, true), a) < 0 {
		t.Errorf("%v, %v: not on both sides of the number, once multiplied", lo, hi)
	}
}

func TestDivOfTheChapter(t *testing.T) { // the chapter's Examples, and example 2 of the whole
	lo, hi := quot.Div(num.Of(1), num.Of(3), false), quot.Div(num.Of(1), num.Of(3), true)
	expect(t, "1 by 3, not up", lo, pos(0xaaaaaaaaaaaaaaaa, -65))
	expect(t, "1 by 3, up", hi, pos(0xaaaaaaaaaaaaaaab, -65))
	expect(t, "the next one above the lower one", num.Next(lo, true), hi)
}

// TestDivAtTheEdges has quotients written out.
func TestDivAtTheEdges(t *testing.T) { // P7.1
	one, two := num.Of(1), num.Of(2)
	for _, c := range []struct {
		name         string
		a, b, lo, hi api.Num
	}{
		{"few bits", num.Of(42), num.Of(7), num.Of(6), num.Of(6)},
		{"5 by 2", num.Of(5), two, pos(5<<61, -62), pos(5<<61, -62)},
		{"2 by 3", two, num.Of(3), pos(0xaaaaaaaaaaaaaaaa, -64), pos(0xaaaaaaaaaaaaaaab, -64)},
		{"1 by 5", one, num.Of(5), pos(0xcccccccccccccccc, -66), pos(0xcccccccccccccccd, -66)},
		{"2 by 7", two, num.Of(7), pos(0x9249249249249249, -65), pos(0x924924924924924a, -65)},
		{"64 bits", pos(full, 0), one, pos(full, 0), pos(full, 0)},
		{"64 bits, of two", pos(full, 0), num.Of(1<<32 - 1), num.Of(1<<32 + 1), num.Of(1<<32 + 1)},
		{"65 bits", pos(full, 1), num.Of(3), pos(0xaaaaaaaaaaaaaaaa, 0), pos(0xaaaaaaaaaaaaaaaa, 0)},
		{"by a power of two", pos(full, 0), power(100), pos(full, -100), pos(full, -100)},
		{"by a power of two below 1", pos(full, 0), power(-100), pos(full, 100), pos(full, 100)},
		{"1 by 2^63 and 1", one, pos(high+1, 0), pos(full-1, -127), pos(full, -127)},
		{"1 by 2^64 less 1", one, pos(full, 0), pos(high, -127), pos(high+1, -127)},
		{"2^63 and 1 by 2^63", pos(high+1, 0), pos(high, 0), pos(high+1, -63), pos(high+1, -63)},
		{"2^63 by 2^63 and 1", pos(high, 0), pos(high+1, 0), pos(full-1, -64), pos(full, -64)},
		{"2^64 less 1 by 2^64 less 2", pos(full, 0), pos(full-1, 0), pos(high, -63), pos(high+1, -63)},
		{"2^64 less 2 by 2^64 less 1", pos(full-1, 0), pos(full, 0), pos(full-1, -64), pos(full, -64)},
		{"2^64 less 1 by 2^63", pos(full, 0), pos(high, 0), pos(full, -63), pos(full, -63)},
		{"2^63 by 2^64 less 1", pos(high, 0), pos(full, 0), pos(high, -64), pos(high+1, -64)},
		{"2^64 less 1 by 2^63 and 1", pos(full, 0), pos(high+1, 0), pos(full-2, -63), pos(full-1, -63)},
		{"the Huge by 1", huge(false), one, huge(false), huge(false)},
		{"the Huge by 2", huge(false), two, pos(full, maxE-1), pos(full, maxE-1)},
		{"the Huge by 1/2", huge(false), power(-1), huge(false), inf(false)},
		{"the Huge by the next one below 1", huge(false), pos(full, -64), huge(false), inf(false)},
		{"the Huge by the next one above 1", huge(false), pos(high+1, -63), pos(full-2, maxE), pos(full-1, maxE)},
		{"the Huge by the Tiny", huge(false), tiny(false), huge(false), inf(false)},
		{"the Huge by itself", huge(false), huge(false), one, one},
		{"to the Huge", pos(full, maxE-1), power(-1), huge(false), huge(false)},
		{"to just below the Huge", pos(full-1, maxE-1), power(-1), pos(full-1, maxE), pos(full-1, maxE)},
		{"to 2^64 times 2^MaxE", pos(high, maxE), power(-1), huge(false), inf(false)},
		{"to between the Huge and that", pos(full-1, maxE), pos(full-1, -64), huge(false), inf(false)},
		{"to ahead of the Huge", pos(full-2, maxE), pos(full, -64), pos(full-2, maxE), pos(full-1, maxE)},
		{"the Tiny by 1", tiny(false), one, tiny(false), tiny(false)},
		{"the Tiny by 2", tiny(false), two, api.Num{}, tiny(false)},
		{"the Tiny by 1/2", tiny(false), power(-1), pos(high, minE+1), pos(high, minE+1)},
		{"the Tiny by the next one above 1", tiny(false), pos(high+1, -63), api.Num{}, tiny(false)},
		{"the Tiny by the next one below 1", tiny(false), pos(full, -64), tiny(false), pos(high+1, minE)},
		{"the Tiny by the Huge", tiny(false), huge(false), api.Num{}, tiny(false)},
		{"the Tiny by itself", tiny(false), tiny(false), one, one},
		{"to the Tiny", pos(high, minE+1), two, tiny(false), tiny(false)},
		{"to just below the Tiny", pos(full, minE), two, api.Num{}, tiny(false)},
		{"to just above the Tiny", pos(high+1, minE+1), two, pos(high+1, minE), pos(high+1, minE)},
		{"to a bit above the Tiny", pos(high+2, minE), pos(high+1, -63), tiny(false), pos(high+1, minE)},
	} {
		expectDiv(t, c.name, c.a, c.b, c.lo, c.hi)
		checkDiv(t, c.a, c.b)
	}
}

// TestDivOfRow has numbers of all sizes, by 1, by powers of two, by themselves and by their neighbours.
func TestDivOfRow(t *testing.T) { // P7.1, P7.4
	for _, a := range sample.Row() {
		if a.Kind != api.Finite {
			continue
		}
		expectDiv(t, "by 1", a, num.Of(1), a, a)
		expectDiv(t, "by itself", a, a, num.Of(1), num.Of(1))
		for _, up := range []bool{false, true} {
			if b := num.Next(a, up); b.Kind == api.Finite {
				checkDiv(t, a, b)
				checkDiv(t, b, a)
			}
		}
		for _, k := range []int{-65, -64, -2, -1, 1, 2, 3, 64, 65} {
			if b := power(k); minE <= a.E-k && a.E-k <= maxE {
				expectDiv(t, "by a power of two", a, b, fin(a.Neg, a.M, a.E-k), fin(a.Neg, a.M, a.E-k))
			}
			checkDiv(t, a, power(k))
		}
	}
}

func TestDivOfWords(t *testing.T) { // P7.1, P7.4
	for _, m := range sample.Words() {
		for _, n := range sample.Words() {
			for _, e := range [][2]int{{0, 0}, {maxE, minE}, {minE, maxE}, {maxE, -65}, {maxE, -64}, {maxE, -63}, {minE, -62}, {minE, -63}, {minE, -64}, {-64, minE}, {-64, maxE}} {
				checkDiv(t, pos(m, e[0]), pos(n, e[1]))
			}
		}
	}
}

// TestDivOfProducts has quotients that are numbers: of products that are, and of their neighbours.
func TestDivOfProducts(t *testing.T) { // P7.1, P7.4
	r := rand.New(rand.NewSource(1))
	for range 3000 {
		size := 1 + r.Intn(63)
		a, b := num.Of(1+r.Intn(1<<size-1)), num.Of(1+int(r.Uint64()>>(size+1)))
		product := arith.Mul(a, b, false)
		if product == arith.Mul(a, b, true) {
			expectDiv(t, "of a product", product, b, a, a)
			expectDiv(t, "of a product, by the other one", product, a, b, b)
		}
		for _, up := range []bool{false, true} {
			checkDiv(t, num.Next(product, up), b)
			checkDiv(t, product, num.Next(b, up))
		}
	}
}

func TestDivOfMany(t *testing.T) { // P7.1, P7.4
	r := rand.New(rand.NewSource(2))
	for range 3000 {
		checkDiv(t, sample.Num(r), sample.Num(r))
	}
	for range 20000 {
		checkDiv(t, fin(r.Intn(2) == 0, sample.Word(r), r.Intn(300)-150), fin(r.Intn(2) == 0, sample.Word(r), r.Intn(300)-150))
	}
}

// TestDivByNought has all kinds of numbers, and nought first of all: what is not, is not known either.
func TestDivByNought(t *testing.T) { // P7.1
	for _, a := range sample.Row() {
		expect(t, "by nought, not up", quot.Div(a, api.Num{}, false), inf(true))
		expect(t, "by nought, up", quot.Div(a, api.Num{}, true), inf(false))
	}
}

func TestDivOfNought(t *testing.T) { // P7.1
	for _, b := range sample.Row() {
		if b.Kind != api.Zero {
			expectDiv(t, "nought", api.Num{}, b, api.Num{}, api.Num{})
		}
	}
}

func TestDivOfInfinite(t *testing.T) { // P7.1
	for _, n := range sample.Row() {
		expectDiv(t, "by infinite", n, inf(false), api.Num{}, api.Num{})
		if n.Kind == api.Finite {
			expectDiv(t, "infinite by finite", inf(false), n, inf(n.Neg), inf(n.Neg))
		}
	}
}
