package decimal_test

import (
	"math"
	"math/big"
	"math/rand"
	"slices"
	"strings"
	"testing"

	"pelorus/api"
	"pelorus/decimal"
	"pelorus/whole"
)

func TestExamples(t *testing.T) { // the chapter's Examples
	d, e := decimal.Parse("-12.50e3")
	if e != api.OK || !same(d, dec("-125", 2)) || decimal.Show(d) != "-125e2" {
		t.Errorf("-12.50e3: %v, error %d, %q", d, e, decimal.Show(d))
	}
	for _, s := range []string{"007", ".5", "5."} {
		if d, e := decimal.Parse(s); e != api.ErrForm || !isNought(d) {
			t.Errorf("%s: %v, error %d", s, d, e)
		}
	}
}

func TestMakeOfNought(t *testing.T) { // P4.1
	for _, tens := range farTens() {
		for _, m := range [][]uint32{nil, {}, {0}, {0, 0, 0}} {
			for _, neg := range []bool{false, true} {
				d, e := decimal.Make(api.Whole{Neg: neg, M: m}, tens)
				if e != api.OK || !isNought(d) {
					t.Errorf("Make(%v %v, %d): %v, error %d", neg, m, tens, d, e)
				}
			}
		}
	}
}

// TestMakeAtTheBounds goes to both bounds of Tens, one beyond each, and far beyond, with factors 10 and without.
func TestMakeAtTheBounds(t *testing.T) { // P4.1
	for _, c := range []struct {
		n, tens, wantN, wantTens int
		e                        api.Errno
	}{
		{1, 400, 1, 400, api.OK}, {-1, 400, -1, 400, api.OK}, {37, 400, 37, 400, api.OK},
		{1, 401, 0, 0, api.ErrArg}, {-1, 401, 0, 0, api.ErrArg}, {-37, 401, 0, 0, api.ErrArg},
		{1, -400, 1, -400, api.OK}, {-1, -400, -1, -400, api.OK}, {-37, -400, -37, -400, api.OK},
		{1, -401, 0, 0, api.ErrArg}, {-1, -401, 0, 0, api.ErrArg}, {37, -401, 0, 0, api.ErrArg},
		// Factors 10 end beyond the upper bound, or within the lower one.
		{10, 399, 1, 400, api.OK}, {10, 400, 0, 0, api.ErrArg}, {-10, 400, 0, 0, api.ErrArg}, {1200, 398, 12, 400, api.OK},
		{1200, 399, 0, 0, api.ErrArg}, {-3000, 398, 0, 0, api.ErrArg}, {-3000, 397, -3, 400, api.OK},
		{10, -401, 1, -400, api.OK}, {-10, -401, -1, -400, api.OK}, {10, -402, 0, 0, api.ErrArg},
		{-1200, -402, -12, -400, api.OK}, {-1200, -403, 0, 0, api.ErrArg}, {1e18, -418, 1, -400, api.OK},
		{1e18, -419, 0, 0, api.ErrArg}, {1e18, 382, 1, 400, api.OK}, {1e18, 383, 0, 0, api.ErrArg},
		// Far beyond: sums of these may wrap round.
		{1, math.MaxInt64, 0, 0, api.ErrArg}, {1, math.MinInt64, 0, 0, api.ErrArg}, {-1, math.MinInt64, 0, 0, api.ErrArg},
		{10, math.MaxInt64, 0, 0, api.ErrArg}, {-1e18, math.MaxInt64, 0, 0, api.ErrArg}, {1e18, math.MaxInt64 - 17, 0, 0, api.ErrArg},
		{10, math.MinInt64, 0, 0, api.ErrArg}, {1e18, math.MinInt64, 0, 0, api.ErrArg}, {1, 1 << 32, 0, 0, api.ErrArg},
		{1, -1 << 32, 0, 0, api.ErrArg}, {-10, -1<<32 - 1, 0, 0, api.ErrArg}, {1, 1<<32 + 5, 0, 0, api.ErrArg},
		// In between.
		{1, 0, 1, 0, api.OK}, {10, 0, 1, 1, api.OK}, {-10, -1, -1, 0, api.OK}, {12, 0, 12, 0, api.OK},
		{-1200, 1, -12, 3, api.OK}, {505, -7, 505, -7, api.OK}, {5050, -7, 505, -6, api.OK},
		{math.MaxInt64, 3, math.MaxInt64, 3, api.OK}, {math.MinInt64, -3, math.MinInt64, -3, api.OK},
	} {
		d, e := decimal.Make(whole.From(c.n), c.tens)
		want := api.Dec{N: whole.From(c.wantN), Tens: c.wantTens}
		if e != c.e || !same(d, want) {
			t.Errorf("Make(%d, %d): %v, error %d", c.n, c.tens, d, e)
		}
	}
}

// TestMakeTakesAllTens makes numbers with any number of factors 10, with far more factors 2 or 5 than that, too.
func TestMakeTakesAllTens(t *testing.T) { // P4.1
	for k := range 200 {
		for _, n := range []string{"1", "-1", "3", "25", "-64", "5", "1001", "1024", strings.Repeat("9", mostDigit)} {
			all := new(big.Int).Mul(big10(n), pow(k))
			for _, tens := range []int{0, -k, -k - 1, -k - 400, -k - 401, 400 - k, 401 - k, 200} {
				checkMake(t, all, tens)
			}
		}
	}
	for _, k := range []int{39, 40, 57, 58, 132, 133, 900} {
		checkMake(t, new(big.Int).Lsh(big.NewInt(1), uint(k)), 0)
		checkMake(t, new(big.Int).Exp(big.NewInt(5), big.NewInt(int64(k)), nil), 0)
	}
}

// TestMakeOfManyDigits makes numbers of 40 digits, of 41, and of more.
func TestMakeOfManyDigits(t *testing.T) { // P4.1
	for _, digits := range []int{mostDigit - 1, mostDigit, mostDigit + 1, mostDigit + 2, 60, 300} {
		for _, n := range []string{
			strings.Repeat("9", digits), strings.Repeat("1", digits), strings.Repeat("1", digits-1) + "2",
			strings.Repeat("7", digits-1) + "5", "1" + strings.Repeat("0", digits-2) + "1",
		} {
			d, e := decimal.Make(wholeOf(big10(n)), 0)
			if fits := digits <= mostDigit; (e == api.OK) != fits || fits && number(d.N.M).String() != n {
				t.Errorf("Make of %d digits: %v, error %d", digits, d, e)
			}
			for _, noughts := range []int{0, 1, 2, 7, 40, 41, 100, 399, 400, 401, 440, 2000} {
				for _, sign := range []string{"", "-"} {
					all := big10(sign + n + strings.Repeat("0", noughts))
					for _, tens := range []int{0, -noughts, -noughts - 400, -noughts - 401, 400 - noughts, 401 - noughts} {
						checkMake(t, all, tens)
					}
				}
			}
		}
	}
	d, e := decimal.Make(wholeOf(pow(mostDigit)), 0) // 41 digits, of which a single one is left
	if e != api.OK || !same(d, dec("1", mostDigit)) {
		t.Errorf("Make of 10^40: %v, error %d", d, e)
	}
}

func TestMakeOfVeryManyDigits(t *testing.T) { // P4.1, R1
	most := 100000
	checkMake(t, pow(most), -most)
	checkMake(t, pow(most), -most-401)
	checkMake(t, new(big.Int).Add(pow(most), big.NewInt(1)), -most)
	checkMake(t, new(big.Int).Lsh(big.NewInt(1), 300000), 0)
}

// TestMakeOfWhatMayNotBe hands in numbers with noughts in their highest limbs, and nought with a sign.
func TestMakeOfWhatMayNotBe(t *testing.T) { // P4.1, the words of whole
	for _, m := range [][]uint32{{1, 0}, {10, 0}, {0, 1, 0}, {1200, 0, 0, 0}, {top, top, 0}, {0, 0, 0, 0, 10, 0}, {0}, {0, 0}, {}} {
		for _, neg := range []bool{false, true} {
			for _, tens := range farTens() {
				w := api.Whole{Neg: neg, M: m}
				d, e := decimal.Make(w, tens)
				expect(t, "Make", d, e, signed(w), tens)
				want, wantE := decimal.Make(whole.Make(neg, m), tens)
				if e != wantE || !same(d, want) {
					t.Errorf("Make(%v %v, %d): %v, error %d", neg, m, tens, d, e)
				}
			}
		}
	}
}

func TestMakeOfSome(t *testing.T) { // P4.1
	r := rand.New(rand.NewSource(1))
	for range 20000 {
		n := someWhole(r, 45)
		checkMake(t, n, r.Intn(900)-450)
		checkMake(t, n, farTens()[r.Intn(len(farTens()))])
	}
}

func TestMay(t *testing.T) { // P4.1
	for _, d := range may() {
		if !decimal.May(d) {
			t.Errorf("May(%v): false", d)
		}
	}
	for _, d := range mayNot() {
		if decimal.May(d) {
			t.Errorf("May(%v): true", d)
		}
	}
	r := rand.New(rand.NewSource(2))
	for range 20000 {
		d := api.Dec{N: wholeOf(someWhole(r, 42)), Tens: r.Intn(900) - 450}
		if got := decimal.May(d); got != mayBe(d) {
			t.Errorf("May(%v): %v", d, got)
		}
	}
}

func checkDigits(t *testing.T, m []uint32) {
	t.Helper()
	if got, want := decimal.Digits(m), number(m).String(); got != want {
		if len(want) > 1000 {
			t.Fatalf("Digits of %d limbs is wrong", len(m))
		}
		t.Fatalf("Digits(%x): %q, not %q", m, got, want)
	}
}

func TestDigits(t *testing.T) { // P4.1
	for want, m := range map[string][]uint32{
		"0": nil, "1": {1}, "10": {10}, "999999999": {999999999}, "1000000000": {1000000000}, "4294967295": {top},
		"4294967296": {0, 1}, "18446744073709551615": {top, top}, "18446744073709551616": {0, 0, 1}, "7": {7, 0, 0},
	} {
		if got := decimal.Digits(m); got != want {
			t.Errorf("Digits(%x): %q, not %q", m, got, want)
		}
	}
	for _, m := range [][]uint32{{}, {0}, {0, 0}, {0, 0, 0, 0, 0}} {
		if got := decimal.Digits(m); got != "0" {
			t.Errorf("Digits(%x): %q", m, got)
		}
	}
	for n := range uint32(3000) {
		checkDigits(t, []uint32{n})
	}
	// Around powers of ten, and at powers of two, noughts and nines fill whole pieces.
	for k := range 400 {
		for _, n := range []int64{-1, 0, 1} {
			m := limbsOf(new(big.Int).Add(pow(k), big.NewInt(n)))
			checkDigits(t, m)
			checkDigits(t, append(m, 0, 0))
		}
		checkDigits(t, limbsOf(new(big.Int).Lsh(big.NewInt(1), uint(3*k))))
		checkDigits(t, append(make([]uint32, k), 1, 0))
		checkDigits(t, slices.Repeat([]uint32{top}, k))
	}
}

func TestDigitsOfSome(t *testing.T) { // P4.1
	r := rand.New(rand.NewSource(3))
	for range 3000 {
		m := make([]uint32, r.Intn(60))
		for i := range m {
			m[i] = r.Uint32() >> (r.Intn(4) * r.Intn(12))
		}
		checkDigits(t, m)
	}
	long := make([]uint32, 5000)
	for i := range long {
		long[i] = r.Uint32()
	}
	checkDigits(t, long)
	checkDigits(t, append(long, 0))
}

func checkCmp(t *testing.T, a, b api.Dec) {
	t.Helper()
	want := exact(a).Cmp(exact(b))
	if got := decimal.Cmp(a, b); got != want {
		t.Errorf("Cmp(%v, %v): %d, not %d", a, b, got, want)
	}
	if got := decimal.Cmp(b, a); got != -want {
		t.Errorf("Cmp(%v, %v): %d, not %d", b, a, got, -want)
	}
}

// steps are numbers of both signs, the least first, with Tens that are near and far apart.
func steps() []api.Dec {
	nines := strings.Repeat("9", mostDigit)
	above := []api.Dec{
		dec("1", -400), dec("11", -400), dec("2", -399), dec(nines, -400), dec("1", -360), dec("1", -1), dec("125", -3),
		dec("9", -1), dec(nines, -40), dec("1", 0), dec("100000000000000000000000000000000000001", -38), dec("11", -1),
		dec("2", 0), dec("9999", -1), dec("1", 3), dec("4294967295", 0), dec("4294967297", 0), dec("1", 10),
		dec("1000000000000000000000000000000000000001", 0), dec(nines, 0), dec("1", 40), dec("99", 398), dec("1", 400),
		dec("12", 399), dec("7", 400), dec(nines, 399), dec("1"+strings.Repeat("0", 38)+"1", 400), dec(nines, 400),
	}
	var out []api.Dec
	for _, d := range slices.Backward(above) {
		d.N.Neg = true
		out = append(out, d)
	}
	return append(append(out, api.Dec{}), above...)
}

func TestCmp(t *testing.T) { // P4.4
	l := steps()
	for i, a := range l {
		for j, b := range l {
			want := 0
			if i < j {
				want = -1
			}
			if i > j {
				want = 1
			}
			b.N.M = slices.Clone(b.N.M)
			if got := decimal.Cmp(a, b); got != want {
				t.Errorf("Cmp(%v, %v): %d, not %d", a, b, got, want)
			}
		}
	}
	for _, a := range may() {
		for _, b := range l {
			checkCmp(t, a, b)
		}
		checkCmp(t, a, a)
	}
	r := rand.New(rand.NewSource(4))
	for range 3000 {
		checkCmp(t, someDec(r), someDec(r))
	}
}

// TestCmpOfNeighbours holds numbers against each other that differ in the last digit alone, by Tens far apart.
func TestCmpOfNeighbours(t *testing.T) { // P4.4
	for k := range mostDigit {
		a, is := made(pow(k), mostTens-mostDigit)
		b, other := made(new(big.Int).Add(pow(k), big.NewInt(1)), mostTens-mostDigit)
		c, third := made(new(big.Int).Sub(pow(k), big.NewInt(1)), mostTens-mostDigit)
		if !is || !other || !third {
			t.Fatal(k)
		}
		checkCmp(t, a, b)
		checkCmp(t, a, c)
		checkCmp(t, b, c)
	}
}

func TestCmpOfWhatMayNotBe(t *testing.T) { // P4.4
	for _, a := range mayNot() {
		for _, b := range append(steps(), mayNot()...) {
			if decimal.Cmp(a, b) != 0 || decimal.Cmp(b, a) != 0 {
				t.Errorf("Cmp of %v and %v", a, b)
			}
		}
	}
}
