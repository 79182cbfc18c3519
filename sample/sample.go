// Package sample has the numbers and the intervals with which the tests of several layers ask: those at the edges of
// their range, and those that may not be. No layer calls it.
package sample

import (
	"cmp"
	"math"
	"slices"

	"pelorus/api"
)

// The bounds of M, and numbers are told by the words of chapter 5 alone, so that no layer is tested by itself.
const (
	minE = -1 << 20
	maxE = 1 << 20
	high = 1 << 63
	full = math.MaxUint64
)

// Fin is a finite number, whether it may be or not.
func Fin(neg bool, m uint64, e int) api.Num {
	return api.Num{Kind: api.Finite, Neg: neg, M: m, E: e}
}

// Pos is a finite number above nought.
func Pos(m uint64, e int) api.Num { return Fin(false, m, e) }

// Tiny is the finite number that is nearest to nought, or its opposite.
func Tiny(neg bool) api.Num { return Fin(neg, high, minE) }

// Huge is the finite number that is farthest from nought, or its opposite.
func Huge(neg bool) api.Num { return Fin(neg, full, maxE) }

// Inf is the infinite number above all others, or its opposite.
func Inf(neg bool) api.Num { return api.Num{Kind: api.Inf, Neg: neg} }

// Power is 2^k.
func Power(k int) api.Num { return Pos(high, k-63) }

// Minus is the opposite of a number that may be.
func Minus(n api.Num) api.Num {
	if n.Kind != api.Zero {
		n.Neg = !n.Neg
	}
	return n
}

// Words are M's at which what is rounded goes wrong.
func Words() []uint64 {
	return []uint64{
		high, high + 1, high + 2, 1<<32 | high, 0xaaaaaaaaaaaaaaaa, 1<<62 - 1 | high, 3 << 62, full - 1<<32, full - 1, full,
	}
}

// Row is numbers that may be, of all kinds and signs, rising.
func Row() []api.Num {
	var above []api.Num
	for _, e := range []int{minE, minE + 1, minE + 64, -128, -64, -63, -62, -1, 0, 1, 63, maxE - 64, maxE - 1, maxE} {
		for _, m := range Words() {
			above = append(above, Pos(m, e))
		}
	}
	out := []api.Num{{}}
	for _, n := range append(above, Inf(false)) {
		out = append(out, n)
		out = slices.Insert(out, 0, Minus(n))
	}
	return out
}

// Few are numbers of each kind and each sign, rising.
func Few() []api.Num {
	var out []api.Num
	for _, n := range Row() {
		switch {
		case n.Kind != api.Finite, n == Tiny(n.Neg), n == Huge(n.Neg), n.M == high && n.E == -63, n.M == 3<<62 && n.E == 0:
			out = append(out, n)
		}
	}
	return out
}

// Less tells whether one number is less than another one; both may be.
func Less(a, b api.Num) bool {
	if a.Neg != b.Neg {
		return a.Neg
	}
	if a.Neg {
		a, b = b, a
	}
	// As M has its highest bit always, a greater E outweighs any M.
	return cmp.Or(cmp.Compare(a.Kind, b.Kind), cmp.Compare(a.E, b.E), cmp.Compare(a.M, b.M)) < 0
}

// MayBe tells whether a number may be.
func MayBe(n api.Num) bool {
	finite := n.Kind == api.Finite && n.M >= high && n.E >= minE && n.E <= maxE
	return finite || n == api.Num{} || n == Inf(false) || n == Inf(true)
}

// MayNot are numbers that may not be, in each of the ways.
func MayNot() []api.Num {
	out := []api.Num{{Kind: api.Zero, Neg: true}}
	for _, neg := range []bool{false, true} {
		for _, m := range []uint64{0, 1, 1 << 62, high - 1} {
			for _, e := range []int{0, minE, maxE} {
				out = append(out, Fin(neg, m, e))
			}
		}
		for _, e := range []int{minE - 1, maxE + 1, 1<<32 + 5, math.MinInt64, math.MaxInt64} {
			for _, m := range []uint64{high, full} {
				out = append(out, Fin(neg, m, e))
			}
			out = append(out, api.Num{Neg: neg, E: e}, api.Num{Kind: api.Inf, Neg: neg, E: e})
		}
		for _, kind := range []int{-1, 3, 1<<32 + 1, math.MinInt64, math.MaxInt64} {
			out = append(out, api.Num{Kind: kind, Neg: neg}, api.Num{Kind: kind, Neg: neg, M: high}, api.Num{Kind: kind, Neg: neg, M: full, E: -5})
		}
		for _, kind := range []int{api.Zero, api.Inf} {
			out = append(out, api.Num{Kind: kind, Neg: neg, M: 1}, api.Num{Kind: kind, Neg: neg, M: high}, api.Num{Kind: kind, Neg: neg, E: -1})
		}
	}
	return out
}

// Dice is where what is asked by chance comes from: the library's, in tests.
type Dice interface {
	Intn(n int) int
	Uint64() uint64
}

// Word is an M, half of them at the edges of their range.
func Word(d Dice) uint64 {
	switch d.Intn(6) {
	case 0:
		return high + uint64(d.Intn(3))
	case 1:
		return full - uint64(d.Intn(3))
	case 2:
		return high | d.Uint64()<<d.Intn(64) // with noughts at the end
	}
	return high | d.Uint64()
}

// Num is a finite number with an exponent near nought or near a bound, and within both.
func Num(d Dice) api.Num {
	from := []int{minE, -70, maxE - 140}
	return Fin(d.Intn(2) == 0, Word(d), from[d.Intn(len(from))]+d.Intn(141))
}
