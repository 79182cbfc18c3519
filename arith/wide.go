package arith

import (
	"math/bits"

	"pelorus/api"
	"pelorus/num"
)

const wordBits = 64

// wide is what comes of two finite numbers before it is rounded: hi times 2^e, with lo behind hi's lowest bit, and
// below nought if neg.
type wide struct {
	neg    bool
	hi, lo uint64
	e      int
}

// sum is the sum of two finite numbers, or one that is rounded as their sum is.
func sum(a, b api.Num) wide {
	far, near := inOrder(a, b)
	// One bit is left free ahead of both, as a sum may need it.
	x := moved(far, 1)
	y := moved(near, far.E-near.E+1)
	carry := uint64(0)
	if far.Neg == near.Neg {
		x.lo, carry = bits.Add64(x.lo, y.lo, 0)
		x.hi, _ = bits.Add64(x.hi, y.hi, carry)
	} else {
		x.lo, carry = bits.Sub64(x.lo, y.lo, 0)
		x.hi, _ = bits.Sub64(x.hi, y.hi, carry)
	}
	return x
}

// inOrder has two finite numbers in order: the first one is not nearer to nought. As M has its highest bit always, a
// greater E outweighs any M.
func inOrder(a, b api.Num) (api.Num, api.Num) {
	if a.E < b.E || a.E == b.E && a.M < b.M {
		return b, a
	}
	return a, b
}

// moved is a finite number whose bits are moved down by n, which is 1 or more.
func moved(a api.Num, n int) wide {
	out := wide{neg: a.Neg, e: a.E + n}
	if n <= wordBits {
		out.hi, out.lo = a.M>>n, a.M<<(wordBits-n)
		return out
	}
	n -= wordBits
	out.lo = a.M >> n
	if bits.TrailingZeros64(a.M) < n {
		// How much goes beyond lo need not be known, but that there is something: numbers so far apart make one
		// whose 64 bits end far ahead of lo's last bit.
		out.lo |= 1
	}
	return out
}

// product is the product of two finite numbers, which has 128 bits at most.
func product(a, b api.Num) wide {
	hi, lo := bits.Mul64(a.M, b.M)
	return wide{neg: a.Neg != b.Neg, hi: hi, lo: lo, e: a.E + b.E + wordBits}
}

// round is the least number that is not less, if up, or the greatest one that is not greater.
func (w wide) round(up bool) api.Num {
	n, same := w.cut()
	if same || w.neg == up {
		return n
	}
	// The exact one lies between n and the next number on n's far side, whichever of the kinds that one is.
	return num.Next(n, up)
}

// cut is the number next to a wide one on the near side of it, seen from nought; is it the same?
func (w wide) cut() (api.Num, bool) {
	w = w.raised()
	switch {
	case w.hi == 0:
		return api.Num{}, true
	case w.e > api.MaxE:
		// Coming from the infinite one towards nought, the Huge is the next one.
		return num.Next(num.Infinite(w.neg), w.neg), false
	case w.e < api.MinE:
		return api.Num{}, false
	}
	return api.Num{Kind: api.Finite, Neg: w.neg, M: w.hi, E: w.e}, w.lo == 0
}

// raised is the same number with the highest bit of hi set, unless it is nought.
func (w wide) raised() wide {
	if w.hi == 0 {
		w.hi, w.lo = w.lo, 0
		w.e -= wordBits
	}
	n := bits.LeadingZeros64(w.hi)
	w.hi = w.hi<<n | w.lo>>(wordBits-n)
	w.lo <<= n
	w.e -= n
	return w
}
