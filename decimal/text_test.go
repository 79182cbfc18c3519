package decimal_test

import (
	"math/rand"
	"regexp"
	"strconv"
	"strings"
	"testing"

	"pelorus/api"
	"pelorus/decimal"
)

// form is that of a text, but for how many digits there may be ahead of `e` in all.
var form = regexp.MustCompile(`^(-?)(0|[1-9][0-9]*)(?:\.([0-9]+))?(?:e(-?[0-9]{1,3}))?$`)

// split is the digits and the power of ten that a text tells, by the chapter's words; false: it is no text of a number.
func split(s string) (string, int, bool) {
	part := form.FindStringSubmatch(s)
	if part == nil || len(part[2])+len(part[3]) > mostDigit {
		return "", 0, false
	}
	tens := 0
	if part[4] != "" {
		tens, _ = strconv.Atoi(part[4])
	}
	return part[1] + part[2] + part[3], tens - len(part[3]), true
}

// checkParse holds Parse of any text against the model.
func checkParse(t *testing.T, s string) {
	t.Helper()
	d, e := decimal.Parse(s)
	digits, tens, is := split(s)
	if is {
		expect(t, "Parse of "+s, d, e, big10(digits), tens)
		checkBack(t, d, e)
		return
	}
	want := api.ErrForm
	if len(s) > 100 {
		want = api.ErrLong
	}
	if e != want || !isNought(d) {
		t.Fatalf("Parse(%q): %v, error %d, not %d", s, d, e, want)
	}
}

// checkBack holds that Parse of Show of what a call has answered is the number.
func checkBack(t *testing.T, d api.Dec, e api.Errno) { // P4.5
	t.Helper()
	if e != api.OK {
		return
	}
	s := decimal.Show(d)
	if back, e := decimal.Parse(s); e != api.OK || !same(back, d) {
		t.Fatalf("Parse(Show(%v)), that is of %q: %v, error %d", d, s, back, e)
	}
}

func TestParse(t *testing.T) { // P4.2
	for s, want := range map[string]api.Dec{
		"0": {}, "-0": {}, "0.0": {}, "-0.000": {}, "0e0": {}, "0e5": {}, "0e-5": {}, "-0.00e-7": {}, "0e999": {}, "0e-999": {},
		"1": dec("1", 0), "-1": dec("-1", 0), "7": dec("7", 0), "10": dec("1", 1), "100": dec("1", 2), "-1200": dec("-12", 2),
		"1234567890": dec("123456789", 1), "-9876543210123456789": dec("-9876543210123456789", 0),
		"0.5": dec("5", -1), "-0.5": dec("-5", -1), "0.125": dec("125", -3), "1.5": dec("15", -1), "1.50": dec("15", -1),
		"10.0": dec("1", 1), "100.10": dec("1001", -1), "0.001": dec("1", -3), "-0.00120": dec("-12", -4), "5.0": dec("5", 0),
		"1e1": dec("1", 1), "1e-1": dec("1", -1), "1e0": dec("1", 0), "1e-0": dec("1", 0), "-12.50e3": dec("-125", 2),
		"2.5e-3": dec("25", -4), "0.1e1": dec("1", 0), "25e400": dec("25", 400), "25e-400": dec("25", -400), "9e-1": dec("9", -1),
		// Noughts ahead are for the digits behind `e` no fault.
		"1e00": dec("1", 0), "1e007": dec("1", 7), "1e-007": dec("1", -7), "3.0e-000": dec("3", 0), "10e05": dec("1", 6),
	} {
		if d, e := decimal.Parse(s); e != api.OK || !same(d, want) {
			t.Errorf("Parse(%q): %v, error %d, not %v", s, d, e, want)
		}
		checkParse(t, s)
	}
}

func TestParseOfNoText(t *testing.T) { // P4.2
	for _, s := range []string{
		// Nothing, signs alone, wrong signs, and signs that stand wrongly.
		"", "-", "+", "--", "--1", "-+1", "+-1", "+1", "+0", "1-", "1-2", "- 1", "-.", "-.5", "-5.", "-e", "-e5", "-1.", "1.-5", "−1",
		// A 0 ahead of digits.
		"00", "-00", "01", "007", "-07", "00.5", "01.5", "-00.5", "00e1", "01e1", "0000000000", "012345678",
		// No digit ahead of the point, or none behind it, and two points.
		".", ".5", "..", ".e1", "5.", "0.", "5..5", "1.2.3", "1.2.", "..5", "5.e1", ".5e1", "1,5", "5.-1", "1..e1",
		// Behind `e`: nothing, a sign alone, wrong signs, four digits, a point, another `e`.
		"e", "e5", "1e", "1e-", "1.5e", "1.5e-", "1e+5", "1e--5", "1e+", "1e1234", "1e-1234", "1e0001", "1e-0000", "0e1000",
		"1e1.5", "1e.5", "1e1.", "1ee1", "1e1e1", "1e1e", "1e5-", "1e 5", "1E5", "1e-E",
		// Anything behind the end, and ahead of the begin.
		"1x", "1.5x", "1e5x", "1 ", "1.5 ", "1e5 ", " 1", "\t1", "1\n", "1e5\n", "1\r", "1\x00", "\x001", "x1", "1e12x", "1e123x", "0x1",
		// Letters and blanks.
		"a", "nan", "inf", "-inf", "Infinity", "0x10", "1_000", "1 000", " ", "   ", "\n", "1f", "1d0", "one",
		// Bytes beyond 127, digits of other scripts among them, and bytes that are no UTF-8.
		"é", "1é", "é1", "1.é", "1eé", "１", "1２", "1.２", "1e２", "٣", "1e٣", "1\u00a0", "\ufeff1", "€", "1€2", "\U0001d7d8", "\ufffd", "1\ufffd",
		"\xff", "1\xff", "\xff1", "1.\xff", "1.5\xff", "1e\xff", "1e-\xff", "1e5\xff", "\xc3", "1\xc3", "\x80", "1\x80", "\xe2\x82", "1\xb11", "\xed\xa0\x80", "\xb0", "1\xb0",
	} {
		if d, e := decimal.Parse(s); e != api.ErrForm || !isNought(d) {
			t.Errorf("Parse(%q): %v, error %d", s, d, e)
		}
		checkParse(t, s)
	}
}

// TestParseOfAllShortTexts goes through all texts of up to six bytes, of those that there may be and another one.
func TestParseOfAllShortTexts(t *testing.T) { // P4.2, P4.5
	var add func(s string, left int)
	add = func(s string, left int) {
		checkParse(t, s)
		if left > 0 {
			for _, c := range "-07.e+" {
				add(s+string(c), left-1)
			}
		}
	}
	add("", 6)
}

// TestParseOfOtherBytes puts each byte in each place of a text, and between each two.
func TestParseOfOtherBytes(t *testing.T) { // P4.2
	for _, s := range []string{"-12.50e-34", "-0.5", "9", "10e3"} {
		for i := range len(s) + 1 {
			for b := range 256 {
				checkParse(t, s[:i]+string([]byte{byte(b)})+s[i:])
				if i < len(s) {
					checkParse(t, s[:i]+string([]byte{byte(b)})+s[i+1:])
				}
			}
		}
	}
}

// TestParseOfManyDigits has 40 digits ahead of `e`, and 41, wherever the point stands.
func TestParseOfManyDigits(t *testing.T) { // P4.2
	for _, all := range []int{1, 2, mostDigit - 1, mostDigit, mostDigit + 1, mostDigit + 2, 90} {
		for _, digits := range []string{
			strings.Repeat("9", all), "1" + strings.Repeat("0", all-1), strings.Repeat("10", all)[:all], "0" + strings.Repeat("7", all-1),
			strings.Repeat("0", all),
		} {
			for front := 1; front <= all; front++ {
				s := digits[:front]
				if front < all {
					s += "." + digits[front:]
				}
				for _, e := range []string{"", "e0", "e5", "e-99", "e399", "e-400", "e999"} {
					checkParse(t, s+e)
					checkParse(t, "-"+s+e)
					_, got := decimal.Parse(s + e)
					if fits := all <= mostDigit && (front == 1 || digits[0] != '0'); fits == (got == api.ErrForm) {
						t.Errorf("Parse(%q): error %d", s+e, got)
					}
				}
			}
		}
	}
}

// TestParseOfLongTexts has texts of 100 bytes, and of 101; it is bytes that count.
func TestParseOfLongTexts(t *testing.T) { // P4.2
	for _, c := range []struct {
		s string
		e api.Errno
	}{
		{strings.Repeat("1", 100), api.ErrForm}, {strings.Repeat("1", 101), api.ErrLong},
		{strings.Repeat(" ", 100), api.ErrForm}, {strings.Repeat(" ", 101), api.ErrLong},
		{strings.Repeat("0", 100), api.ErrForm}, {strings.Repeat("0", 101), api.ErrLong},
		{"1" + strings.Repeat(" ", 99), api.ErrForm}, {"1" + strings.Repeat(" ", 100), api.ErrLong},
		{"1e" + strings.Repeat("0", 98), api.ErrForm}, {"1e" + strings.Repeat("0", 99), api.ErrLong},
		{"0." + strings.Repeat("0", 98), api.ErrForm}, {"0." + strings.Repeat("0", 99), api.ErrLong},
		{strings.Repeat("é", 50), api.ErrForm}, {strings.Repeat("é", 50) + "1", api.ErrLong},
		{"1" + strings.Repeat("€", 33), api.ErrForm}, {"12" + strings.Repeat("€", 33), api.ErrLong},
		{strings.Repeat("\xff", 100), api.ErrForm}, {strings.Repeat("\xff", 101), api.ErrLong},
		{strings.Repeat("1", 1000000), api.ErrLong}, {strings.Repeat("-", 1000000), api.ErrLong},
	} {
		if d, e := decimal.Parse(c.s); e != c.e || !isNought(d) {
			t.Errorf("Parse of %d bytes: %v, error %d, not %d", len(c.s), d, e, c.e)
		}
	}
	// The longest text that is one has 47 bytes.
	s := "-1." + strings.Repeat("9", mostDigit-1) + "e-123"
	if d, e := decimal.Parse(s); len(s) != 47 || e != api.OK || !same(d, dec("-1"+strings.Repeat("9", mostDigit-1), -162)) {
		t.Errorf("Parse(%q): %v, error %d", s, d, e)
	}
}

// TestParseAtTheBounds has numbers behind `e` that make Tens end at a bound, or beyond it.
func TestParseAtTheBounds(t *testing.T) { // P4.2
	for s, want := range map[string]api.Dec{
		"1e400": dec("1", 400), "-1e400": dec("-1", 400), "10e399": dec("1", 400), "0.1e401": dec("1", 400), "0.10e401": dec("1", 400),
		"1.5e401": dec("15", 400), "1.50e401": dec("15", 400), "1000e397": dec("1", 400), "0.001e403": dec("1", 400),
		"1e-400": dec("1", -400), "-1e-400": dec("-1", -400), "10e-401": dec("1", -400), "1.0e-400": dec("1", -400),
		"1.5e-399": dec("15", -400), "0.1e-399": dec("1", -400), "1200e-402": dec("12", -400), "0.10e-399": dec("1", -400),
		"1" + strings.Repeat("0", 39) + "e-439":             dec("1", -400),
		"0." + strings.Repeat("0", 38) + "1e439":            dec("1", 400),
		"0." + strings.Repeat("0", 38) + "1e-361":           dec("1", -400),
		"1." + strings.Repeat("0", 39) + "e400":             dec("1", 400),
		strings.Repeat("9", 40) + "e-400":                   dec(strings.Repeat("9", 40), -400),
		"9." + strings.Repeat("9", 39) + "e-361":            dec(strings.Repeat("9", 40), -400),
		"9." + strings.Repeat("9", 39) + "e439":             dec(strings.Repeat("9", 40), 400),
		"0." + strings.Repeat("0", 39) + "e" + "999":        {},
		"-0." + strings.Repeat("0", 39) + "e" + "-" + "999": {},
	} {
		if d, e := decimal.Parse(s); e != api.OK || !same(d, want) {
			t.Errorf("Parse(%q): %v, error %d, not %v", s, d, e, want)
		}
	}
	for _, s := range []string{
		"1e401", "-1e401", "10e400", "1000e398", "0.1e402", "1.5e402", "1e999", "-99e999", "0.001e404", "1" + strings.Repeat("0", 39) + "e362",
		"1e-401", "-1e-401", "10e-402", "1.5e-400", "0.1e-400", "1.0e-401", "1e-999", "-0.5e-999", "1200e-403", "0.01e-399",
		"1" + strings.Repeat("0", 39) + "e-440", "0." + strings.Repeat("0", 38) + "1e-362", "9." + strings.Repeat("9", 39) + "e-362",
		"9." + strings.Repeat("9", 39) + "e440",
	} {
		if d, e := decimal.Parse(s); e != api.ErrArg || !isNought(d) {
			t.Errorf("Parse(%q): %v, error %d", s, d, e)
		}
	}
	for tens := -999; tens <= 999; tens++ {
		for _, front := range []string{"1", "-10", "0.1", "25.50", "0", "-300"} {
			checkParse(t, front+"e"+strconv.Itoa(tens))
		}
	}
}

// TestParseOfSome goes through many texts that are numbers, and those that come of them by a change.
func TestParseOfSome(t *testing.T) { // P4.2, P4.5
	r := rand.New(rand.NewSource(5))
	for range 20000 {
		s := someText(r)
		checkParse(t, s)
		i := r.Intn(len(s))
		checkParse(t, s[:i])
		checkParse(t, s[i:])
		checkParse(t, s[:i]+s[i+1:])
		checkParse(t, s[:i]+string("0123456789-+.eE \xff"[r.Intn(17)])+s[i:])
	}
}

func someDigits(r *rand.Rand, n int) string {
	var b strings.Builder
	for range n {
		b.WriteByte("012345678900099"[r.Intn(15)])
	}
	return b.String()
}

// someText is a text of a number, or nearly one.
func someText(r *rand.Rand) string {
	s := []string{"", "-"}[r.Intn(2)]
	s += strings.TrimLeft(someDigits(r, 1+r.Intn(25)), "0")
	if strings.TrimPrefix(s, "-") == "" {
		s += "0"
	}
	if r.Intn(2) == 0 {
		s += "." + someDigits(r, 1+r.Intn(20))
	}
	if r.Intn(2) == 0 {
		s += "e" + []string{"", "-"}[r.Intn(2)] + someDigits(r, 1+r.Intn(3))
	}
	return s
}

func TestShow(t *testing.T) { // P4.3
	forty := strings.Repeat("9", mostDigit)
	for want, d := range map[string]api.Dec{
		"0": {}, "1": dec("1", 0), "-1": dec("-1", 0), "7": dec("7", 0), "12": dec("12", 0), "-125e2": dec("-125", 2),
		"125e2": dec("125", 2), "125e-3": dec("125", -3), "-125e-3": dec("-125", -3), "9e-1": dec("9", -1), "1e1": dec("1", 1),
		"1e400": dec("1", 400), "-1e400": dec("-1", 400), "1e-400": dec("1", -400), "-1e-400": dec("-1", -400), "1e10": dec("1", 10),
		forty: dec(forty, 0), "-" + forty + "e-400": dec("-"+forty, -400), forty + "e400": dec(forty, 400),
		"1000000001": dec("1000000001", 0), "4294967296e-100": dec("4294967296", -100), "-18446744073709551616e7": dec("-18446744073709551616", 7),
	} {
		if got := decimal.Show(d); got != want {
			t.Errorf("Show(%v): %q, not %q", d, got, want)
		}
	}
	if got := decimal.Show(api.Dec{N: api.Whole{M: []uint32{}}}); got != "0" {
		t.Errorf("Show of 0: %q", got)
	}
	for _, d := range mayNot() {
		if got := decimal.Show(d); got != "" {
			t.Errorf("Show(%v): %q", d, got)
		}
	}
	for _, d := range may() {
		want := signed(d.N).String()
		if d.Tens != 0 {
			want += "e" + strconv.Itoa(d.Tens)
		}
		if got := decimal.Show(d); got != want {
			t.Errorf("Show(%v): %q, not %q", d, got, want)
		}
	}
}

func TestParseOfShow(t *testing.T) { // P4.5
	for _, d := range append(may(), steps()...) {
		checkBack(t, d, api.OK)
		e := api.OK
		if d, e = decimal.Make(d.N, d.Tens); e != api.OK {
			t.Errorf("Make of %v: error %d", d, e)
		}
		checkBack(t, d, e)
	}
	r := rand.New(rand.NewSource(6))
	for range 5000 {
		checkBack(t, someDec(r), api.OK)
	}
}

// TestNoughtsBehind puts noughts behind the last digit behind the point.
func TestNoughtsBehind(t *testing.T) { // P4.5
	r := rand.New(rand.NewSource(7))
	for range 3000 {
		front, e, _ := strings.Cut(someText(r), "e")
		if !strings.Contains(front, ".") {
			front += ".0"
		}
		if e != "" {
			e = "e" + e
		}
		want, wantE := decimal.Parse(front + e)
		for n := range 20 {
			s := front + strings.Repeat("0", n) + e
			if _, _, is := split(s); !is {
				break // one digit too many
			}
			if d, e := decimal.Parse(s); e != wantE || !same(d, want) {
				t.Fatalf("Parse(%q): %v, error %d, not %v, error %d", s, d, e, want, wantE)
			}
		}
	}
}
