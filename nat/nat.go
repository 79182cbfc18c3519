// Package nat is layer 1: natural numbers of any length, as limbs to the base 2^32, the lowest first.
// See shared/doc/01-nat.md.
package nat

import (
	"cmp"
	"math/bits"
)

// limbBits is how many bits a limb has.
const limbBits = 32

// cut is a without noughts in its highest limbs. It shares a's memory: it is for reading, never for answering.
func cut(a []uint32) []uint32 {
	n := len(a)
	for n > 0 && a[n-1] == 0 {
		n--
	}
	return a[:n]
}

// Trim is a number without noughts in its highest limbs, in memory of its own.
func Trim(a []uint32) []uint32 {
	a = cut(a)
	if len(a) == 0 {
		return nil
	}
	out := make([]uint32, len(a))
	copy(out, a)
	return out
}

// Cmp compares two: -1, 0 or 1, if the first one is less, the same, or greater.
func Cmp(a, b []uint32) int {
	a, b = cut(a), cut(b)
	if len(a) != len(b) {
		return cmp.Compare(len(a), len(b))
	}
	for k := range len(a) {
		i := len(a) - 1 - k
		if a[i] != b[i] {
			return cmp.Compare(a[i], b[i])
		}
	}
	return 0
}

// Len is how many bits a number needs; nought needs none.
func Len(a []uint32) int {
	a = cut(a)
	if len(a) == 0 {
		return 0
	}
	top := len(a) - 1
	return top*limbBits + bits.Len32(a[top])
}

// Add is the sum.
func Add(a, b []uint32) []uint32 {
	a, b = cut(a), cut(b)
	if len(a) < len(b) {
		a, b = b, a
	}
	out := make([]uint32, len(a)+1)
	copy(out, a)
	addTo(out, b)
	return Trim(out)
}

// Sub is what is left of the first one; false: the second one is greater.
func Sub(a, b []uint32) ([]uint32, bool) {
	if Cmp(a, b) < 0 {
		return nil, false
	}
	out := Trim(a)
	takeFrom(out, cut(b), 1)
	return Trim(out), true
}

// Mul is the product.
func Mul(a, b []uint32) []uint32 {
	a, b = cut(a), cut(b)
	out := make([]uint32, len(a)+len(b))
	for i := range len(a) {
		out[i+len(b)] = addTimes(out[i:i+len(b)], b, a[i])
	}
	return Trim(out)
}

// addTo adds b to the limbs of acc, which has at least as many. A carry out of acc's highest limb is dropped:
// a division counts on that when it gives back what it took too much.
func addTo(acc, b []uint32) {
	carry := uint32(0)
	for i := range len(acc) {
		if i >= len(b) && carry == 0 {
			return
		}
		limb := uint32(0)
		if i < len(b) {
			limb = b[i]
		}
		acc[i], carry = bits.Add32(acc[i], limb, carry)
	}
}

// addTimes adds b times f to acc, which has as many limbs, and answers the limb that goes beyond them.
func addTimes(acc, b []uint32, f uint32) uint32 {
	carry := uint64(0)
	for i := range len(b) {
		// At most (2^32-1)^2 + 2 (2^32-1), which is 2^64-1: no bit is lost.
		sum := uint64(b[i])*uint64(f) + uint64(acc[i]) + carry
		acc[i] = uint32(sum)
		carry = sum >> limbBits
	}
	return uint32(carry)
}

// takeFrom takes b times f from acc, which has at least as many limbs, and tells whether that was more than
// there was; acc has then wrapped round.
func takeFrom(acc, b []uint32, f uint32) bool {
	over, borrow := uint64(0), uint32(0)
	for i := range len(acc) {
		if i >= len(b) && over == 0 && borrow == 0 {
			return false
		}
		if i < len(b) {
			over += uint64(b[i]) * uint64(f)
		}
		acc[i], borrow = bits.Sub32(acc[i], uint32(over), borrow)
		over >>= limbBits
	}
	return over != 0 || borrow != 0
}
