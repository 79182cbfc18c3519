package decimal_test

import (
	"math"
	"math/big"
	"math/rand"
	"slices"
	"strings"
	"testing"

	"pelorus/api"
	"pelorus/decimal"
	"pelorus/whole"
)

const (
	top       = math.MaxUint32
	mostTens  = 400
	mostDigit = 40
)

// number is what limbs stand for, told by none of the project's own calls.
func number(m []uint32) *big.Int {
	n := new(big.Int)
	for _, limb := range slices.Backward(m) {
		n.Lsh(n, 32).Or(n, big.NewInt(int64(limb)))
	}
	return n
}

// signed is what a sign and limbs stand for.
func signed(w api.Whole) *big.Int {
	n := number(w.M)
	if w.Neg {
		n.Neg(n)
	}
	return n
}

// limbsOf is the library's number as limbs, without its sign.
func limbsOf(n *big.Int) []uint32 {
	var m []uint32
	limb := big.NewInt(top)
	for rest := new(big.Int).Abs(n); rest.Sign() > 0; rest.Rsh(rest, 32) {
		m = append(m, uint32(new(big.Int).And(rest, limb).Uint64()))
	}
	return m
}

func wholeOf(n *big.Int) api.Whole {
	return api.Whole{Neg: n.Sign() < 0, M: limbsOf(n)}
}

// big10 is the number of a text in the library's words.
func big10(s string) *big.Int {
	n, is := new(big.Int).SetString(s, 10)
	if !is {
		panic(s)
	}
	return n
}

// pow is 10 to the power k, that is a 1 and k noughts.
func pow(k int) *big.Int { return big10("1" + strings.Repeat("0", k)) }

// dec is a number of these parts, whether it may be or not.
func dec(n string, tens int) api.Dec { return api.Dec{N: wholeOf(big10(n)), Tens: tens} }

// made is what Make is to make of n and tens, by the chapter's words; false: an error.
func made(n *big.Int, tens int) (api.Dec, bool) {
	if n.Sign() == 0 {
		return api.Dec{}, true
	}
	text := n.String()
	digits := strings.TrimRight(text, "0")
	// Sums of the library do not wrap round.
	all := new(big.Int).Add(big.NewInt(int64(tens)), big.NewInt(int64(len(text)-len(digits))))
	if len(strings.TrimPrefix(digits, "-")) > mostDigit || all.CmpAbs(big.NewInt(mostTens)) > 0 {
		return api.Dec{}, false
	}
	return dec(digits, int(all.Int64())), true
}

// mayBe tells the same as May, by the chapter's words alone.
func mayBe(d api.Dec) bool {
	if len(d.N.M) == 0 {
		return !d.N.Neg && d.Tens == 0
	}
	digits := number(d.N.M).String()
	return d.N.M[len(d.N.M)-1] != 0 && len(digits) <= mostDigit && digits[len(digits)-1] != '0' &&
		-mostTens <= d.Tens && d.Tens <= mostTens
}

// exact is a number that may be, as one of the library's.
func exact(d api.Dec) *big.Rat {
	n := new(big.Rat).SetInt(signed(d.N))
	if d.Tens < 0 {
		return n.Quo(n, new(big.Rat).SetInt(pow(-d.Tens)))
	}
	return n.Mul(n, new(big.Rat).SetInt(pow(d.Tens)))
}

func same(a, b api.Dec) bool {
	return a.Tens == b.Tens && a.N.Neg == b.N.Neg && slices.Equal(a.N.M, b.N.M)
}

func isNought(d api.Dec) bool { return same(d, api.Dec{}) }

// expect fails the test unless got and e are what Make is to make of n and tens.
func expect(t *testing.T, what string, got api.Dec, e api.Errno, n *big.Int, tens int) {
	t.Helper()
	want, is := made(n, tens)
	wantE := api.OK
	if !is {
		wantE = api.ErrArg
	}
	if e != wantE || !same(got, want) {
		t.Fatalf("%s: %v, error %d, not %v, error %d", what, got, e, want, wantE)
	}
	if !mayBe(got) {
		t.Fatalf("%s: %v may not be", what, got)
	}
}

// checkMake holds Make of a whole number against the model.
func checkMake(t *testing.T, n *big.Int, tens int) {
	t.Helper()
	got, e := decimal.Make(wholeOf(n), tens)
	expect(t, "Make", got, e, n, tens)
}

// farTens are powers of ten at both bounds, one beyond each, and far beyond.
func farTens() []int {
	return []int{
		0, 1, -1, 2, -2, 399, -399, 400, -400, 401, -401, 402, -402, 440, -440, 441, -441, 1000, -1000,
		1 << 31, -1 << 31, 1 << 32, -1 << 32, 1<<32 + 3, -1<<32 - 3,
		math.MaxInt64, math.MaxInt64 - 1, math.MaxInt64 - 40, math.MinInt64, math.MinInt64 + 1, math.MinInt64 + 40,
	}
}

// may are numbers that may be, of either sign, at the edges of digits, limbs and powers.
func may() []api.Dec {
	out := []api.Dec{{}, {N: api.Whole{M: []uint32{}}}}
	nines, ones := strings.Repeat("9", mostDigit), strings.Repeat("1", mostDigit)
	for _, n := range []string{
		"1", "2", "3", "5", "9", "11", "99", "101", "125", "999999999", "1000000001", "4294967295", "4294967297",
		"18446744073709551615", "18446744073709551617", "1" + strings.Repeat("0", mostDigit-2) + "1", nines, ones,
		nines[:mostDigit-1], ones[:mostDigit-1] + "2",
	} {
		for _, tens := range []int{0, 1, -1, 2, -2, 9, -9, 10, -10, 39, -39, 40, 99, -100, 361, -361, 399, -399, 400, -400} {
			out = append(out, dec(n, tens), dec("-"+n, tens))
		}
	}
	return out
}

// mayNot are numbers each of which may not be, in each of the ways in which that is so.
func mayNot() []api.Dec {
	of := func(neg bool, tens int, m ...uint32) api.Dec {
		return api.Dec{N: api.Whole{Neg: neg, M: m}, Tens: tens}
	}
	out := []api.Dec{
		// Noughts in the highest limbs, or a sign without a limb.
		of(false, 0, 0), of(true, 0, 0), of(true, 0), of(false, 0, 1, 0), of(true, 0, 7, 0, 0), of(false, 3, 0, 1, 0),
		of(false, 3, 0), of(true, 3),
		// Nought with a power of ten.
		of(false, 1), of(false, -1), of(false, 400), of(false, -400), of(false, math.MaxInt64), of(false, math.MinInt64),
		// Factors 10.
		dec("10", 0), dec("-10", 0), dec("100", 5), dec("120", -5), dec("-1000000000", 1), dec("4294967290", 0),
		dec("18446744073709551620", -3), dec(strings.Repeat("1", mostDigit-1)+"0", 0),
		// Too many digits, with a factor 10 and without one.
		dec(strings.Repeat("1", mostDigit+1), 0), dec("-"+strings.Repeat("9", mostDigit+1), 3),
		dec("1"+strings.Repeat("0", mostDigit-1)+"1", 0), dec(pow(mostDigit).String(), 0), dec(strings.Repeat("7", 500), 0),
	}
	for _, tens := range farTens() {
		if tens < -mostTens || tens > mostTens {
			out = append(out, dec("1", tens), dec("-37", tens))
		}
	}
	return out
}

// someWhole is a number of up to most digits, often with factors 10, with noughts or nines in between.
func someWhole(r *rand.Rand, most int) *big.Int {
	var b strings.Builder
	b.WriteString("0")
	for range r.Intn(most + 1) {
		b.WriteByte("0123456789009900"[r.Intn(16)])
	}
	n := big10(b.String())
	n.Mul(n, pow(r.Intn(3)*r.Intn(most)))
	if r.Intn(2) == 0 {
		n.Neg(n)
	}
	return n
}

// someDec is a number that may be.
func someDec(r *rand.Rand) api.Dec {
	for {
		d, is := made(someWhole(r, mostDigit), r.Intn(2*mostTens+1)-mostTens)
		if is {
			return d
		}
	}
}

func TestModel(t *testing.T) {
	for _, d := range may() {
		if !mayBe(d) || whole.Sign(d.N) != exact(d).Sign() {
			t.Errorf("%v may not be", d)
		}
	}
	for _, d := range mayNot() {
		if mayBe(d) {
			t.Errorf("%v may be", d)
		}
	}
}
