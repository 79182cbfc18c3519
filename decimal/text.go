package decimal

import (
	"strconv"
	"strings"

	"pelorus/api"
	"pelorus/nat"
	"pelorus/whole"
)

const (
	// maxText is how many bytes a text may have.
	maxText = 100
	// maxPower is how many digits there may be behind `e`.
	maxPower = 3
	// pieceDigits is how many digits a limb has room for, whichever they are; pieceEnd is 10 to that power.
	pieceDigits = 9
	pieceEnd    = 1_000_000_000
)

// Parse is the number that a text tells.
func Parse(s string) (api.Dec, api.Errno) {
	if len(s) > maxText {
		return api.Dec{}, api.ErrLong
	}
	t, is := read(s)
	if !is {
		return api.Dec{}, api.ErrForm
	}
	return Make(whole.Make(t.neg, limbs(t.digits)), t.tens)
}

// told is what a text tells: a sign, all digits ahead of `e`, and the power of ten that they are to be multiplied by.
type told struct {
	neg    bool
	digits string
	tens   int
}

// read goes through a text from its begin to its end; false: it is no text of a number.
func read(s string) (told, bool) {
	s, neg := strings.CutPrefix(s, "-")
	front, s := cutDigits(s)
	if !mayLead(front) {
		return told{}, false
	}
	behind, s, is := cutFraction(s)
	if !is || len(front)+len(behind) > api.MaxDigit {
		return told{}, false
	}
	e, s, is := cutPower(s)
	if !is || s != "" {
		return told{}, false
	}
	return told{neg: neg, digits: front + behind, tens: e - len(behind)}, true
}

// mayLead tells whether digits may be those ahead of the point: there is one, and no 0 ahead of others.
func mayLead(front string) bool {
	return front == "0" || front != "" && front[0] != '0'
}

// cutDigits is the digits that a text begins with, and what is behind them.
func cutDigits(s string) (string, string) {
	n := 0
digits:
	for _, r := range s {
		switch {
		case '0' <= r && r <= '9':
			n++
		default:
			break digits
		}
	}
	return s[:n], s[n:]
}

// cutFraction is the digits behind the point that a text begins with, and what is behind them; nothing and all of it,
// if it begins otherwise; false: there is a point without a digit behind it.
func cutFraction(s string) (string, string, bool) {
	rest, is := strings.CutPrefix(s, ".")
	if !is {
		return "", s, true
	}
	digits, rest := cutDigits(rest)
	return digits, rest, digits != ""
}

// cutPower is the number behind the `e` that a text begins with, and what is behind it; 0 and all of it, if it begins
// otherwise; false: there is an `e` with no digit or with too many behind it.
func cutPower(s string) (int, string, bool) {
	rest, is := strings.CutPrefix(s, "e")
	if !is {
		return 0, s, true
	}
	rest, neg := strings.CutPrefix(rest, "-")
	digits, rest := cutDigits(rest)
	if digits == "" || len(digits) > maxPower {
		return 0, "", false
	}
	n, _ := strconv.Atoi(digits)
	if neg {
		n = -n
	}
	return n, rest, true
}

// limbs is the number of digits, as limbs.
func limbs(digits string) []uint32 {
	var m []uint32
	for _, r := range digits {
		m = nat.Add(nat.Mul(m, ten()), []uint32{uint32(r - '0')})
	}
	return m
}

// builder is a text that is made piece by piece.
type builder struct{ strings.Builder }

// Show is the text of a number; nothing, if it may not be.
func Show(d api.Dec) string {
	if !May(d) {
		return ""
	}
	var b builder
	if d.N.Neg {
		b.WriteByte('-')
	}
	b.WriteString(Digits(d.N.M))
	if d.Tens != 0 {
		b.WriteByte('e')
		b.WriteString(strconv.Itoa(d.Tens))
	}
	return b.String()
}

// Digits is the digits of limbs, without noughts ahead; `0` of nought.
func Digits(m []uint32) string {
	var b builder
	b.putPieces(m, powers(m))
	text := strings.TrimLeft(b.String(), "0")
	if text == "" {
		return "0"
	}
	return text
}

// powers is 10^9, the square of it, the square of that and so on, up to one whose square is greater than m.
func powers(m []uint32) [][]uint32 {
	p := []uint32{pieceEnd}
	out := [][]uint32{p}
	// A square needs at least one bit less than twice as many, so this one is not greater than m for sure.
	for 2*nat.Len(p)-1 <= nat.Len(m) {
		p = nat.Mul(p, p)
		out = append(out, p)
	}
	return out
}

// putPieces puts the digits of m, which is less than the square of the last one of powers (or than 10^9, if there is
// none), with noughts ahead: as many digits for each half, down to pieces of one limb. Halves leave far less to
// divide than one piece after the other would.
func (b *builder) putPieces(m []uint32, powers [][]uint32) {
	if len(powers) == 0 {
		b.putPiece(m)
		return
	}
	last := len(powers) - 1
	high, low, _ := nat.Div(m, powers[last])
	b.putPieces(high, powers[:last])
	b.putPieces(low, powers[:last])
}

// putPiece puts the nine digits of a number of one limb or none, which is less than 10^9.
func (b *builder) putPiece(m []uint32) {
	n := uint32(0)
	if len(m) > 0 {
		n = m[0]
	}
	digits := strconv.FormatUint(uint64(n), 10)
	b.WriteString(strings.Repeat("0", pieceDigits-len(digits)))
	b.WriteString(digits)
}
