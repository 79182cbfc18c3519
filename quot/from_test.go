package quot_test

import (
	"math"
	"math/big"
	"math/rand"
	"strings"
	"testing"

	"pelorus/api"
	"pelorus/decimal"
	"pelorus/num"
	"pelorus/quot"
	"pelorus/whole"
)

// pow is a base to the power k, as the library has it.
func pow(base int64, k int) *big.Int {
	return new(big.Int).Exp(big.NewInt(base), big.NewInt(int64(k)), nil)
}

// checkFrom holds a decimal number, n times 10 to the power tens, and its opposite against the library's.
func checkFrom(t *testing.T, n *big.Int, tens int) {
	t.Helper()
	d := api.Dec{N: wholeOf(n), Tens: tens}
	lo, hi := quot.From(d, false), quot.From(d, true)
	v := value{new(big.Int).Mul(n, pow(10, max(tens, 0))), pow(10, max(-tens, 0)), 0}
	checkValue(t, v, lo, hi)
	d.N = whole.Neg(d.N)
	expect(t, "the opposite, not up", quot.From(d, false), minus(hi))
	expect(t, "the opposite, up", quot.From(d, true), minus(lo))
	if t.Failed() {
		t.Fatalf("at %v times 10^%d", n, tens)
	}
}

// TestFromAtTheEdges has decimal numbers written out.
func TestFromAtTheEdges(t *testing.T) { // P7.3
	for _, c := range []struct {
		text   string
		lo, hi api.Num
	}{
		{"0.5", power(-1), power(-1)}, // the chapter's example
		{"0.1", pos(0xcccccccccccccccc, -67), pos(0xcccccccccccccccd, -67)},
		{"0.3", pos(0x9999999999999999, -65), pos(0x999999999999999a, -65)},
		{"0.25", power(-2), power(-2)},
		{"-12.5", fin(true, 25<<59, -60), fin(true, 25<<59, -60)},
		{"-0.1", fin(true, 0xcccccccccccccccd, -67), fin(true, 0xcccccccccccccccc, -67)},
		{"0", api.Num{}, api.Num{}},
		{"-0.00e5", api.Num{}, api.Num{}},
		{"7", num.Of(7), num.Of(7)},
		{"-3e2", num.Of(-300), num.Of(-300)},
		{"0.500000000000000000000000000000000000001", power(-1), pos(high+1, -64)},
		{"0.499999999999999999999999999999999999999", pos(full, -65), power(-1)},
		{"0.50000000000000000005421010862427522170", pos(high, -64), pos(high+1, -64)},
		{"0.50000000000000000005421010862427522171", pos(high+1, -64), pos(high+2, -64)},
		{"0.10000000000000000000000000000000000001", pos(0xcccccccccccccccc, -67), pos(0xcccccccccccccccd, -67)},
		{"0.09999999999999999999999999999999999999", pos(0xcccccccccccccccc, -67), pos(0xcccccccccccccccd, -67)},
		{"18446744073709551615", pos(full, 0), pos(full, 0)},
		{"18446744073709551616", power(64), power(64)},
		{"18446744073709551617", power(64), pos(high+1, 1)},
		{"1e27", pos(0xcecb8f27f4200f3a, 26), pos(0xcecb8f27f4200f3a, 26)},
		{"1e28", pos(0x813f3978f8940984, 30), pos(0x813f3978f8940985, 30)},
	} {
		d, e := decimal.Parse(c.text)
		if e != api.OK {
			t.Fatalf("%s: error %d", c.text, e)
		}
		expect(t, c.text+", not up", quot.From(d, false), c.lo)
		expect(t, c.text+", up", quot.From(d, true), c.hi)
	}
}

// TestFromOfEachTens has every power of ten, with few digits and with as many as may be.
func TestFromOfEachTens(t *testing.T) { // P7.3, P7.4
	most := new(big.Int).Sub(pow(10, 40), big.NewInt(1))
	for tens := -400; tens <= 400; tens++ {
		for _, n := range []*big.Int{big.NewInt(1), big.NewInt(-7), most, new(big.Int).Sub(most, pow(10, 39))} {
			checkFrom(t, n, tens)
		}
	}
}

// TestFromOfPowersOfTwo has all that are decimal numbers of so many digits, which are numbers, and their neighbours,
// which are none.
func TestFromOfPowersOfTwo(t *testing.T) { // P7.3, P7.4
	for k := 1; k <= 57; k++ {
		d := api.Dec{N: wholeOf(pow(5, k)), Tens: -k}
		for _, up := range []bool{false, true} {
			expect(t, "a power of two", quot.From(d, up), power(-k))
		}
		checkFrom(t, new(big.Int).Add(pow(5, k), big.NewInt(1)), -k)
		checkFrom(t, new(big.Int).Sub(pow(5, k), big.NewInt(1)), -k)
	}
	for k := 1; k <= 132; k++ {
		checkFrom(t, bit(k, 0), 0)
	}
}

func TestFromOfMany(t *testing.T) { // P7.3, P7.4
	r := rand.New(rand.NewSource(6))
	for range 3000 {
		n := new(big.Int).Rand(r, pow(10, 1+r.Intn(40)))
		if n.Sign() > 0 && !strings.HasSuffix(n.String(), "0") {
			checkFrom(t, n, r.Intn(801)-400)
			checkFrom(t, n, r.Intn(60)-50)
		}
	}
}

// TestFromOfWhatMayNotBe has decimal numbers that may not be, in each of the ways.
func TestFromOfWhatMayNotBe(t *testing.T) { // P7.3
	one := whole.From(1)
	for _, d := range []api.Dec{
		{Tens: 1}, {Tens: -1}, {Tens: 400}, {N: api.Whole{Neg: true}}, {N: api.Whole{M: []uint32{0}}},
		{N: one, Tens: 401}, {N: one, Tens: -401}, {N: one, Tens: math.MaxInt}, {N: one, Tens: math.MinInt},
		{N: whole.From(10)}, {N: whole.From(-10), Tens: -1}, {N: whole.From(1200), Tens: 3}, {N: wholeOf(pow(10, 40))},
		{N: wholeOf(new(big.Int).Add(pow(10, 40), big.NewInt(1)))}, {N: wholeOf(pow(7, 100)), Tens: -5},
		{N: api.Whole{M: []uint32{5, 0}}}, {N: api.Whole{Neg: true, M: []uint32{5, 0, 0}}, Tens: -1},
	} {
		for _, up := range []bool{false, true} {
			expect(t, "of what may not be", quot.From(d, up), api.Num{})
		}
	}
}
