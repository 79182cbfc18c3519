package quot_test

import (
	"math"
	"math/big"
	"math/rand"
	"testing"

	"pelorus/api"
	"pelorus/arith"
	"pelorus/num"
	"pelorus/quot"
	"pelorus/sample"
)

// expectRoot fails the test unless lo and hi are the root of a number, to both sides.
func expectRoot(t *testing.T, what string, a, lo, hi api.Num) {
	t.Helper()
	for _, up := range []bool{false, true} {
		want := lo
		if up {
			want = hi
		}
		got, is := quot.Root(a, up)
		expect(t, what, got, want)
		if !is {
			t.Errorf("%s: no root", what)
		}
	}
}

// squared is a number's square beside another number: -1, 0 or 1, if it is less, the same, or greater.
func squared(n, a api.Num) int {
	if n.Kind == api.Inf {
		return 1
	}
	x, e := times(n)
	y, f := times(a)
	return compare(new(big.Int).Mul(x, x), 2*e, y, f)
}

// checkRoot holds the root of a finite number above nought against the library's squares.
func checkRoot(t *testing.T, a api.Num) {
	t.Helper()
	lo, is := quot.Root(a, false)
	hi, too := quot.Root(a, true)
	if !is || !too || num.Sign(lo) <= 0 || num.Sign(hi) <= 0 {
		t.Fatalf("Root(%v): %v, %v, %v, %v", a, lo, is, hi, too)
	}
	checkSides(t, lo, hi, squared(lo, a), squared(hi, a))
	if num.Cmp(arith.Mul(lo, lo, false), a) > 0 || num.Cmp(arith.Mul(hi, hi, true), a) < 0 { // P7.4
		t.Errorf("%v, %v: not on both sides of the number, once squared", lo, hi)
	}
	if t.Failed() {
		t.Fatalf("at Root(%v)", a)
	}
}

// TestRootAtTheEdges has roots written out.
func TestRootAtTheEdges(t *testing.T) { // P7.2
	for _, c := range []struct {
		name      string
		a, lo, hi api.Num
	}{
		{"of 4, the chapter's example", num.Of(4), num.Of(2), num.Of(2)},
		{"of 1", num.Of(1), num.Of(1), num.Of(1)},
		{"of 2", num.Of(2), pos(0xb504f333f9de6484, -63), pos(0xb504f333f9de6485, -63)},
		{"of 1/2", power(-1), pos(0xb504f333f9de6484, -64), pos(0xb504f333f9de6485, -64)},
		{"of 3", num.Of(3), pos(0xddb3d742c265539d, -63), pos(0xddb3d742c265539e, -63)},
		{"of 9", num.Of(9), num.Of(3), num.Of(3)},
		{"of 1/4", power(-2), power(-1), power(-1)},
		{"of the greatest square of 62 bits", num.Of((1<<31 - 1) * (1<<31 - 1)), num.Of(1<<31 - 1), num.Of(1<<31 - 1)},
		{"of the greatest square of 64 bits", pos(0xfffffffe00000001, 0), num.Of(1<<32 - 1), num.Of(1<<32 - 1)},
		{"of one more", pos(0xfffffffe00000002, 0), num.Of(1<<32 - 1), num.Next(num.Of(1<<32-1), true)},
		{"of one less", pos(0xfffffffe00000000, 0), num.Next(num.Of(1<<32-1), false), num.Of(1<<32 - 1)},
		{"of the next one below 1", pos(full, -64), pos(full, -64), num.Of(1)},
		{"of the next one above 1", pos(high+1, -63), num.Of(1), pos(high+1, -63)},
		{"of the next one below 4", pos(full, -62), pos(full, -63), num.Of(2)},
		{"of the next one above 4", pos(high+1, -61), num.Of(2), pos(high+1, -62)},
		{"of a number of 64 bits, with an odd E", pos(high, 1), power(32), power(32)},
		{"of a number of 64 bits, with an even E", pos(high, 0), pos(0xb504f333f9de6484, -32), pos(0xb504f333f9de6485, -32)},
		{"of the Tiny", tiny(false), pos(0xb504f333f9de6484, minE/2-32), pos(0xb504f333f9de6485, minE/2-32)},
		{"of two times the Tiny", pos(high, minE+1), pos(high, minE/2-31), pos(high, minE/2-31)},
		{"of the Huge", huge(false), pos(full, maxE/2-32), pos(high, maxE/2-31)},
		{"of the greatest power of two", pos(high, maxE), pos(0xb504f333f9de6484, maxE/2-32), pos(0xb504f333f9de6485, maxE/2-32)},
		{"of nought", api.Num{}, api.Num{}, api.Num{}},
		{"of infinite", inf(false), inf(false), inf(false)},
	} {
		expectRoot(t, c.name, c.a, c.lo, c.hi)
		if c.a.Kind == api.Finite {
			checkRoot(t, c.a)
		}
	}
}

func TestRootBelowNought(t *testing.T) { // P7.2
	for _, n := range sample.Row() {
		if num.Sign(n) >= 0 {
			continue
		}
		for _, up := range []bool{false, true} {
			if r, is := quot.Root(n, up); is || (r != api.Num{}) {
				t.Errorf("Root(%v): %v, %v", n, r, is)
			}
		}
	}
}

// TestRootOfRow has all exponents of a range, odd and even, below nought and above, and those at the bounds.
func TestRootOfRow(t *testing.T) { // P7.2, P7.4
	for _, n := range sample.Row() {
		if n.Kind == api.Finite && !n.Neg {
			checkRoot(t, n)
		}
	}
	for e := -140; e <= 140; e++ {
		for _, m := range sample.Words() {
			checkRoot(t, pos(m, e))
		}
	}
}

// TestRootOfSquares has squares of as many bits as they may have, moved by an even exponent, and their neighbours.
func TestRootOfSquares(t *testing.T) { // P7.2, P7.4
	r := rand.New(rand.NewSource(3))
	for range 3000 {
		n := num.Of(1 + r.Intn(math.MaxUint32>>r.Intn(32)))
		n.E += r.Intn(200) - 100
		square := arith.Mul(n, n, false)
		expectRoot(t, "of a square", square, n, n)
		for _, up := range []bool{false, true} {
			checkRoot(t, num.Next(square, up))
			checkRoot(t, num.Next(num.Next(square, up), up))
		}
	}
}

func TestRootOfMany(t *testing.T) { // P7.2, P7.4
	r := rand.New(rand.NewSource(4))
	for range 3000 {
		n := sample.Num(r)
		n.Neg = false
		checkRoot(t, n)
		// What lies beside a square of 128 bits, whose root has 64.
		w := fin(false, sample.Word(r), r.Intn(100))
		checkRoot(t, arith.Mul(w, w, r.Intn(2) == 0))
	}
}
