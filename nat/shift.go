package nat

// maxShift is the most that Shl shifts by.
const maxShift = 1 << 24

// Shl is the number times 2^n; nothing, if n is above 2^24.
func Shl(a []uint32, n int) []uint32 {
	if n > maxShift {
		return nil
	}
	if n < 1 {
		return Trim(a)
	}
	return Trim(raised(a, n))
}

// Shr is the number divided by 2^n, rounded down.
func Shr(a []uint32, n int) []uint32 {
	if n < 1 {
		return Trim(a)
	}
	skip, low := n/limbBits, n%limbBits
	if skip >= len(a) {
		return nil
	}
	out := make([]uint32, len(a)-skip)
	for i := range len(out) {
		pair := uint64(a[i+skip])
		if i+skip+1 < len(a) {
			pair |= uint64(a[i+skip+1]) << limbBits
		}
		out[i] = uint32(pair >> low)
	}
	return Trim(out)
}

// raised is a times 2^n, however great n is. It always has one limb more than those of a and the whole limbs
// of n, also when that one is nought: a division counts on it.
func raised(a []uint32, n int) []uint32 {
	skip, low := n/limbBits, n%limbBits
	out := make([]uint32, len(a)+skip+1)
	for i := range len(a) {
		pair := uint64(a[i]) << low
		out[i+skip] |= uint32(pair)
		out[i+skip+1] = uint32(pair >> limbBits)
	}
	return out
}
