package nat

import "math/bits"

// Div is how often the second one is in the first one, and what is left; false: it is nought.
func Div(a, b []uint32) ([]uint32, []uint32, bool) {
	a, b = cut(a), cut(b)
	if len(b) == 0 {
		return nil, nil, false
	}
	if Cmp(a, b) < 0 {
		return nil, Trim(a), true
	}
	if len(b) == 1 {
		q, r := divLimb(a, b[0])
		return q, r, true
	}
	q, r := divLong(a, b)
	return q, r, true
}

// divLimb divides by a single limb that is not nought.
func divLimb(a []uint32, b uint32) ([]uint32, []uint32) {
	q := make([]uint32, len(a))
	rest := uint32(0)
	for k := range len(a) {
		i := len(a) - 1 - k
		q[i], rest = bits.Div32(rest, a[i], b)
	}
	return Trim(q), Trim([]uint32{rest})
}

// divLong divides a by b, which has two limbs or more and is not greater, digit by digit from the top.
func divLong(a, b []uint32) ([]uint32, []uint32) {
	n := len(b)
	// With the divisor's highest bit set, a digit that is guessed from the highest limbs is hardly ever too great.
	up := bits.LeadingZeros32(b[n-1])
	rest, div := raised(a, up), raised(b, up)[:n]
	q := make([]uint32, len(a)-n+1)
	for k := range len(q) {
		i := len(q) - 1 - k
		q[i] = takeDigit(rest[i:i+n+1], div)
	}
	return Trim(q), Shr(rest[:n], up)
}

// takeDigit takes div from rest, which has one limb more, as often as it goes, and answers how often that was.
func takeDigit(rest, div []uint32) uint32 {
	digit := guessDigit(rest, div)
	if takeFrom(rest, div, digit) {
		digit--
		addTo(rest, div)
	}
	return digit
}

// guessDigit tells by the three highest limbs of rest and the two highest of div how often div is in rest:
// that number, or one more.
func guessDigit(rest, div []uint32) uint32 {
	n := len(div)
	high, next := uint64(div[n-1]), uint64(div[n-2])
	top := uint64(rest[n])<<limbBits | uint64(rest[n-1])
	digit := min(top/high, 1<<limbBits-1)
	left := top - digit*high
	for left>>limbBits == 0 && digit*next > left<<limbBits|uint64(rest[n-2]) {
		digit--
		left += high
	}
	return uint32(digit)
}
