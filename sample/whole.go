package sample

import (
	"slices"

	"pelorus/api"
)

// Big is a whole number of the library's, which tests alone may import.
type Big interface {
	Sign() int
	Bytes() []byte
}

// Limbs is a number of the library's as limbs, without its sign.
func Limbs(n Big) []uint32 {
	var m []uint32
	bytes := n.Bytes()
	for end := len(bytes); end > 0; end -= 4 {
		limb := uint32(0)
		for _, b := range bytes[max(end-4, 0):end] {
			limb = limb<<8 | uint32(b)
		}
		m = append(m, limb)
	}
	return m
}

// Whole is a number of the library's as one of the program's.
func Whole(n Big) api.Whole {
	return api.Whole{Neg: n.Sign() < 0, M: Limbs(n)}
}

// Bytes is limbs as the library takes them: as bytes, the highest first.
func Bytes(m []uint32) []byte {
	var out []byte
	for _, limb := range slices.Backward(m) {
		out = append(out, byte(limb>>24), byte(limb>>16), byte(limb>>8), byte(limb))
	}
	return out
}

// WholeMayBe tells whether a whole number may be, by the words of chapter 2.
func WholeMayBe(w api.Whole) bool {
	if n := len(w.M); n > 0 {
		return w.M[n-1] != 0
	}
	return !w.Neg
}
