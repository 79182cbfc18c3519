package num

import (
	"pelorus/api"
	"pelorus/dy"
	"pelorus/nat"
	"pelorus/whole"
)

const limbBits = 32

// Exact is a number as a dyadic one; false: it is infinite, or may not be.
func Exact(n api.Num) (api.Dy, bool) {
	if !May(n) || n.Kind == api.Inf {
		return api.Dy{}, false
	}
	// The bounds of a dyadic number's exponent are far beyond those of E, so nothing is lost here.
	return dy.Make(whole.Make(n.Neg, []uint32{uint32(n.M), uint32(n.M >> limbBits)}), n.E), true
}

// Round is the least number that is not below a dyadic one, if up, or the greatest one that is not above it.
func Round(d api.Dy, up bool) api.Num {
	if !dy.May(d) {
		d = dy.Make(d.N, d.E)
	}
	n, same := cut(d)
	if same || d.N.Neg == up {
		return n
	}
	// d lies between n and the next number on n's far side, whichever of the kinds that one is.
	return Next(n, up)
}

// cut is the number next to a dyadic one on the near side of it, seen from nought; is it the same? The dyadic one is
// one that may be.
func cut(d api.Dy) (api.Num, bool) {
	length := nat.Len(d.N.M)
	if length == 0 {
		return api.Num{}, true
	}
	e := d.E + length - wordBits
	if e > api.MaxE {
		return huge(d.N.Neg), false
	}
	if e < api.MinE {
		return api.Num{}, false
	}
	// The lowest bit of d's number is 1, so it is not the same as soon as one bit is cut.
	return api.Num{Kind: api.Finite, Neg: d.N.Neg, M: word(d.N.M, length), E: e}, length <= wordBits
}

// word is the 64 bits from the highest one on of limbs that need length bits; noughts are put behind, if these are
// fewer.
func word(m []uint32, length int) uint64 {
	over := length - wordBits
	// One of the two shifts is by less than 1, and shifts nothing.
	pair := nat.Shl(nat.Shr(m, over), -over)
	return uint64(pair[1])<<limbBits | uint64(pair[0])
}
