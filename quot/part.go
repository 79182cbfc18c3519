package quot

import (
	"pelorus/api"
	"pelorus/nat"
	"pelorus/num"
	"pelorus/whole"
)

const (
	limbBits = 32
	wordBits = 64
	// far is an exponent beyond those of all numbers, and its opposite is one the other way, even of what has a
	// word's bits: what is farther away is rounded to the same.
	far = 2 * api.MaxE
)

// part is the highest bits of a number above nought, which is m times 2^e, if same, and else between that and m + 1
// times 2^e.
type part struct {
	m    []uint32
	same bool
	e    int
}

// limbs is the M of a finite number as a natural number.
func limbs(m uint64) []uint32 {
	return []uint32{uint32(m), uint32(m >> limbBits)}
}

// divided is a times 2^e by b, neither of which is nought, with a word's bits or more; e is from -far to far.
func divided(a, b []uint32, e int) part {
	// A number of many limbs may need more bits than any exponent makes up for, to be divided by one of more. With
	// fewer than a word's, or none, the quotient is between nought and the Tiny all the same.
	n := min(nat.Len(b)-nat.Len(a)+wordBits, far)
	top, all := moved(a, n)
	q, left, _ := nat.Div(top, b)
	return part{m: q, same: all && len(left) == 0, e: min(e-n, far)}
}

// moved is a natural number times 2^n, rounded down; is it the same? Where more than 2^24 bits are cut it tells that
// it is not, which makes no difference so far beyond the Huge.
func moved(a []uint32, n int) ([]uint32, bool) {
	if n >= 0 {
		return nat.Shl(a, n), true
	}
	out := nat.Shr(a, -n)
	return out, nat.Cmp(nat.Shl(out, -n), a) == 0
}

// root is the square root of a word's bits times 2^e, with a word's bits or more.
func root(m []uint32, e int) part {
	// Twice as many bits have a root of a word's; one more makes the exponent even, so that it can be halved.
	n := wordBits + e&1
	out, same := nat.Root(nat.Shl(m, n))
	return part{m: out, same: same, e: (e - n) / 2}
}

// round is the least number that is not less than a part, or than its opposite, if neg, or the greatest one that is
// not greater, if not up.
func (p part) round(neg, up bool) api.Num {
	// However much lies behind m, one bit there has the same numbers beside it.
	m := nat.Shl(p.m, 1)
	if !p.same {
		m = nat.Add(m, []uint32{1})
	}
	return num.Round(api.Dy{N: whole.Make(neg, m), E: p.e - 1}, up)
}
