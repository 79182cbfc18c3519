package quot_test

import (
	"math/big"
	"math/rand"
	"testing"

	"pelorus/api"
	"pelorus/num"
	"pelorus/quot"
	"pelorus/sample"
	"pelorus/whole"
)

// expectRatio fails the test unless lo and hi are the ratio of two numbers, to both sides, and that with one opposite
// is the opposite, and that of two opposites the same.
func expectRatio(t *testing.T, what string, a, b *big.Int, lo, hi api.Num) {
	t.Helper()
	for _, c := range []struct {
		a, b   *big.Int
		lo, hi api.Num
	}{{a, b, lo, hi}, {opposite(a), opposite(b), lo, hi}, {opposite(a), b, minus(hi), minus(lo)}, {a, opposite(b), minus(hi), minus(lo)}} {
		expect(t, what+", not up", quot.Ratio(wholeOf(c.a), wholeOf(c.b), false), c.lo)
		expect(t, what+", up", quot.Ratio(wholeOf(c.a), wholeOf(c.b), true), c.hi)
	}
}

// checkRatio holds the ratio of two whole numbers, the second one not nought, against the library's.
func checkRatio(t *testing.T, a, b *big.Int) {
	t.Helper()
	lo, hi := quot.Ratio(wholeOf(a), wholeOf(b), false), quot.Ratio(wholeOf(a), wholeOf(b), true)
	checkValue(t, parted(a, b, 0), lo, hi)
	expectRatio(t, "as that of other signs", a, b, lo, hi)
	if t.Failed() {
		t.Fatalf("at Ratio of %d and %d bits", a.BitLen(), b.BitLen())
	}
}

// TestRatioAtTheEdges has ratios written out.
func TestRatioAtTheEdges(t *testing.T) { // P7.3
	one, three := big.NewInt(1), big.NewInt(3)
	for _, c := range []struct {
		name   string
		a, b   *big.Int
		lo, hi api.Num
	}{
		{"12 by 4", big.NewInt(12), big.NewInt(4), num.Of(3), num.Of(3)},
		{"1 by 10", one, big.NewInt(10), pos(0xcccccccccccccccc, -67), pos(0xcccccccccccccccd, -67)},
		{"1 by 3", one, three, pos(0xaaaaaaaaaaaaaaaa, -65), pos(0xaaaaaaaaaaaaaaab, -65)},
		{"64 bits by 1", bit(64, -1), one, pos(full, 0), pos(full, 0)},
		{"65 bits by 1, the last one nought", bit(65, -2), one, pos(full, 1), pos(full, 1)},
		{"65 bits by 1", bit(65, -1), one, pos(full, 1), power(65)},
		{"2^64 and 1 by 1", bit(64, 1), one, power(64), pos(high+1, 1)},
		{"2^65 and 1 by 1", bit(65, 1), one, power(65), pos(high+1, 2)},
		{"2^500 and 1 by 1", bit(500, 1), one, power(500), pos(high+1, 437)},
		{"2^500 less 1 by 1", bit(500, -1), one, pos(full, 436), power(500)},
		{"2^500 by 2^500 less 1", bit(500, 0), bit(500, -1), num.Of(1), pos(high+1, -63)},
		{"2^500 less 1 by 2^500", bit(500, -1), bit(500, 0), pos(full, -64), num.Of(1)},
		{"many limbs by as many", moved(three, 3000), moved(big.NewInt(5), 3001), pos(0x9999999999999999, -65), pos(0x999999999999999a, -65)},
		{"many limbs by few", moved(three, 3000), big.NewInt(8), pos(3<<62, 2935), pos(3<<62, 2935)},
		{"few limbs by many", three, bit(3000, 0), pos(3<<62, -3062), pos(3<<62, -3062)},
		{"3^400 by 3^399", new(big.Int).Exp(three, big.NewInt(400), nil), new(big.Int).Exp(three, big.NewInt(399), nil), num.Of(3), num.Of(3)},
		{"the Huge", moved(bit(64, -1), maxE), one, huge(false), huge(false)},
		{"3 times the Huge by 3", moved(bit(64, -1), maxE+1).Add(moved(bit(64, -1), maxE), moved(bit(64, -1), maxE+1)), three, huge(false), huge(false)},
		{"just beyond the Huge", moved(bit(64, -1), maxE).Add(moved(bit(64, -1), maxE), one), one, huge(false), inf(false)},
		{"just short of the Huge", moved(bit(64, -1), maxE).Sub(moved(bit(64, -1), maxE), one), one, pos(full-1, maxE), huge(false)},
		{"the next power of two", bit(maxE+64, 0), one, huge(false), inf(false)},
		{"just short of it", bit(maxE+64, -1), one, huge(false), inf(false)},
		{"far beyond the Huge", bit(1<<21+63, 0), one, huge(false), inf(false)},
		{"farther beyond the Huge", bit(1<<21+200, 0), three, huge(false), inf(false)},
		{"farther than any exponent", bit(1<<24+200, 0), three, huge(false), inf(false)},
		{"the Tiny", one, bit(-minE-63, 0), tiny(false), tiny(false)},
		{"a half of the Tiny", one, bit(-minE-62, 0), api.Num{}, tiny(false)},
		{"just below the Tiny", one, bit(-minE-63, 1), api.Num{}, tiny(false)},
		{"just above the Tiny", one, bit(-minE-63, -1), tiny(false), pos(high+1, minE)},
		{"3 by 3 times as much as the Tiny needs", three, moved(three, -minE-63), tiny(false), tiny(false)},
		{"far below the Tiny", one, bit(1<<21, 0), api.Num{}, tiny(false)},
		{"farther below the Tiny", bit(64, -1), bit(1<<22+200, 1), api.Num{}, tiny(false)},
		{"farther than any exponent below the Tiny", one, bit(1<<24+200, 1), api.Num{}, tiny(false)},
	} {
		expectRatio(t, c.name, c.a, c.b, c.lo, c.hi)
		checkRatio(t, c.a, c.b)
	}
}

// wholes are numbers of few limbs and of many, of both signs, but nought.
func wholes() []*big.Int {
	var out []*big.Int
	for _, k := range []int{0, 1, 2, 5, 31, 32, 33, 63, 64, 65, 95, 96, 127, 128, 129, 160, 1000} {
		for _, more := range []int64{-3, -1, 0, 1} {
			if n := bit(k, more); n.Sign() > 0 {
				out = append(out, n, opposite(n))
			}
		}
	}
	return out
}

func TestRatioOfWholes(t *testing.T) { // P7.3, P7.4
	for _, a := range wholes() {
		for _, b := range wholes() {
			checkRatio(t, a, b)
		}
	}
}

// TestRatioOfMany has products, too, beside which a ratio is nearly a number, or one.
func TestRatioOfMany(t *testing.T) { // P7.3, P7.4
	r := rand.New(rand.NewSource(5))
	some := func(bits int) *big.Int {
		out := new(big.Int).Rand(r, bit(1+r.Intn(bits), 0))
		return out.Add(out, big.NewInt(1))
	}
	for range 3000 {
		a, b := some(400), some(400)
		checkRatio(t, a, b)
		product := new(big.Int).Mul(some(66), b)
		for _, more := range []int64{-1, 0, 1} {
			checkRatio(t, new(big.Int).Add(product, big.NewInt(more)), b)
		}
	}
}

func TestRatioOfNought(t *testing.T) { // P7.3
	for _, n := range append(wholes(), bit(1<<22, 0)) {
		for _, up := range []bool{false, true} {
			expect(t, "nought", quot.Ratio(api.Whole{}, wholeOf(n), up), api.Num{})
		}
	}
}

func TestRatioByNought(t *testing.T) { // P7.3
	for _, n := range append(wholes(), new(big.Int)) {
		for _, nought := range []api.Whole{{}, {M: []uint32{}}, {Neg: true}, {M: []uint32{0, 0}}, {Neg: true, M: []uint32{0}}} {
			expect(t, "by nought, not up", quot.Ratio(wholeOf(n), nought, false), inf(true))
			expect(t, "by nought, up", quot.Ratio(wholeOf(n), nought, true), inf(false))
		}
	}
}

// TestRatioOfWhatMayNotBe has noughts in the highest limbs, and noughts that are below nought.
func TestRatioOfWhatMayNotBe(t *testing.T) { // P7.3, the Words of chapter 2
	loose := func(n *big.Int) []api.Whole {
		w := wholeOf(n)
		return []api.Whole{w, {Neg: w.Neg, M: append(sample.Limbs(n), 0)}, {Neg: w.Neg, M: append(sample.Limbs(n), 0, 0, 0, 0, 0)}}
	}
	for _, a := range wholes() {
		for _, b := range []*big.Int{big.NewInt(1), big.NewInt(-3), bit(64, 1), opposite(bit(200, -1))} {
			for _, up := range []bool{false, true} {
				want := quot.Ratio(wholeOf(a), wholeOf(b), up)
				for _, x := range loose(a) {
					for _, y := range loose(b) {
						expect(t, "with noughts ahead", quot.Ratio(x, y, up), want)
					}
				}
			}
		}
	}
	for _, nought := range []api.Whole{{Neg: true}, {Neg: true, M: []uint32{0, 0, 0}}, {M: make([]uint32, 40)}} {
		expect(t, "of nought", quot.Ratio(nought, whole.From(-3), true), api.Num{})
		expect(t, "of nought", quot.Ratio(nought, whole.From(3), false), api.Num{})
	}
}
