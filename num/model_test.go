package num_test

import (
	"encoding/binary"
	"math"
	"math/big"
	"math/rand"
	"slices"
	"testing"

	"pelorus/api"
	"pelorus/dy"
	"pelorus/whole"
)

const (
	minE  = -1 << 20
	maxE  = 1 << 20
	maxDy = 1 << 22 // the bound of a dyadic number's exponents
	high  = 1 << 63
	full  = math.MaxUint64
)

// fin is a finite number, whether it may be or not.
func fin(neg bool, m uint64, e int) api.Num {
	return api.Num{Kind: api.Finite, Neg: neg, M: m, E: e}
}

func tiny(neg bool) api.Num { return fin(neg, high, minE) }
func huge(neg bool) api.Num { return fin(neg, full, maxE) }
func inf(neg bool) api.Num  { return api.Num{Kind: api.Inf, Neg: neg} }

// minus is the opposite, told by the chapter's words alone.
func minus(n api.Num) api.Num {
	if n.Kind != api.Zero {
		n.Neg = !n.Neg
	}
	return n
}

// mayBe tells the same as May, by the chapter's words alone.
func mayBe(n api.Num) bool {
	finite := n.Kind == 1 && n.M > math.MaxInt64 && n.E >= minE && n.E <= maxE
	return finite || n == api.Num{} || n == inf(false) || n == inf(true)
}

// index is the place of a number that may be in the row of all of them, 0 for nought: that of the next one above is
// greater by one.
func index(n api.Num) *big.Int {
	out := new(big.Int)
	switch n.Kind {
	case api.Finite:
		out.SetUint64(n.M - high + 1)
		out.Add(out, new(big.Int).Lsh(big.NewInt(int64(n.E-minE)), 63))
	case api.Inf:
		out.Lsh(big.NewInt(maxE-minE+1), 63)
		out.Add(out, big.NewInt(1))
	}
	if n.Neg {
		out.Neg(out)
	}
	return out
}

// at is the number at a place of the row.
func at(place *big.Int) api.Num {
	if place.Sign() == 0 {
		return api.Num{}
	}
	neg := place.Sign() < 0
	rest := new(big.Int).Abs(place)
	rest.Sub(rest, big.NewInt(1))
	e := minE + int(new(big.Int).Rsh(rest, 63).Int64())
	if e > maxE {
		return inf(neg)
	}
	return fin(neg, rest.And(rest, big.NewInt(math.MaxInt64)).Uint64()+high, e)
}

// value is a dyadic number of the library's, n times 2^e.
type value struct {
	n *big.Int
	e int
}

// number is what a sign and limbs stand for, told by none of the project's own calls.
func number(w api.Whole) *big.Int {
	var b []byte
	for _, limb := range slices.Backward(w.M) {
		b = binary.BigEndian.AppendUint32(b, limb)
	}
	n := new(big.Int).SetBytes(b)
	if w.Neg {
		n.Neg(n)
	}
	return n
}

// valueOf is what a dyadic number is taken for: nought, if its exponent is beyond the bounds, or if it would be once
// N is odd.
func valueOf(d api.Dy) value {
	n := number(d.N)
	if d.E < -maxDy || d.E > maxDy || n.Sign() == 0 || d.E+int(n.TrailingZeroBits()) > maxDy {
		return value{new(big.Int), 0}
	}
	return value{n, d.E}
}

// exactly is a number that is not infinite.
func exactly(n api.Num) value {
	out := value{new(big.Int).SetUint64(n.M), n.E}
	if n.Neg {
		out.n.Neg(out.n)
	}
	return out
}

// compare compares two as multiples of one power of two.
func compare(a, b value) int {
	low := min(a.e, b.e)
	return new(big.Int).Lsh(a.n, uint(a.e-low)).Cmp(new(big.Int).Lsh(b.n, uint(b.e-low)))
}

// beside is -1, 0 or 1, if a number is less than a dyadic one, the same, or greater.
func beside(n api.Num, v value) int {
	if n.Kind != api.Inf {
		return compare(exactly(n), v)
	}
	if n.Neg {
		return -1
	}
	return 1
}

// of is n times 2^e, as it may be.
func of(n, e int) api.Dy { return dy.Make(whole.From(n), e) }

// raw is a dyadic number of a sign, an exponent and limbs, whether it may be or not.
func raw(neg bool, e int, m ...uint32) api.Dy { return api.Dy{N: api.Whole{Neg: neg, M: m}, E: e} }

// dyOf is a finite number, or nought, as a dyadic one.
func dyOf(n api.Num) api.Dy {
	return dy.Make(api.Whole{Neg: n.Neg, M: []uint32{uint32(n.M), uint32(n.M >> 32)}}, n.E)
}

// finites are finite numbers from the least one above nought on, rising.
func finites() []api.Num {
	var out []api.Num
	for _, e := range []int{minE, minE + 1, minE + 2, -70, -64, -63, -62, -1, 0, 1, 2, 63, 64, 1000, maxE - 2, maxE - 1, maxE} {
		for _, m := range []uint64{high, high + 1, high + 2, 3 << 62, 1<<32 | high, full - 1<<32, full - 1, full} {
			out = append(out, fin(false, m, e))
		}
	}
	slices.SortFunc(out, func(a, b api.Num) int { return index(a).Cmp(index(b)) })
	return out
}

// row is numbers that may be, of all kinds and signs, rising.
func row() []api.Num {
	above := append(finites(), inf(false))
	out := []api.Num{{}}
	for _, n := range above {
		out = append(out, n)
		out = slices.Insert(out, 0, minus(n))
	}
	return out
}

// few is a piece of row with each kind and each sign.
func few() []api.Num {
	var out []api.Num
	for _, n := range []api.Num{tiny(false), fin(false, high, -63), fin(false, full, -64), huge(false), inf(false)} {
		out = append(out, n, minus(n))
	}
	return append(out, api.Num{})
}

// mayNot are numbers that may not be, in each of the ways.
func mayNot() []api.Num {
	var out []api.Num
	for _, neg := range []bool{false, true} {
		for _, e := range []int{minE, -63, 0, maxE} {
			for _, m := range []uint64{0, 1, 2, 1 << 32, 1 << 62, high - 1} {
				out = append(out, fin(neg, m, e))
			}
		}
		for _, e := range []int{minE - 1, maxE + 1, -1 << 32, 1 << 32, 1<<32 + 5, math.MinInt64, math.MaxInt64, math.MinInt64 + 1, math.MaxInt64 - 1} {
			out = append(out, fin(neg, high, e), fin(neg, high+1, e), fin(neg, full, e), fin(neg, 1, e))
			out = append(out, api.Num{Kind: api.Zero, Neg: neg, E: e}, api.Num{Kind: api.Inf, Neg: neg, E: e})
		}
		for _, kind := range []int{-1, 3, 4, 1 << 32, 1<<32 + 1, math.MinInt64, math.MaxInt64} {
			out = append(out, api.Num{Kind: kind, Neg: neg}, api.Num{Kind: kind, Neg: neg, M: high}, api.Num{Kind: kind, Neg: neg, M: full, E: -5})
		}
		for _, kind := range []int{api.Zero, api.Inf} {
			out = append(out, api.Num{Kind: kind, Neg: neg, M: 1}, api.Num{Kind: kind, Neg: neg, M: high}, api.Num{Kind: kind, Neg: neg, M: full, E: maxE})
			out = append(out, api.Num{Kind: kind, Neg: neg, E: 1}, api.Num{Kind: kind, Neg: neg, E: -1}, api.Num{Kind: kind, Neg: neg, E: minE})
		}
	}
	return append(out, api.Num{Kind: api.Zero, Neg: true})
}

// someNum is a finite number near nought, near 1 or near the greatest one, or one of few.
func someNum(r *rand.Rand) api.Num {
	if r.Intn(4) == 0 {
		l := few()
		return l[r.Intn(len(l))]
	}
	e := []int{minE + r.Intn(3), r.Intn(200) - 100, maxE - r.Intn(3)}[r.Intn(3)]
	m := []uint64{r.Uint64() | high, high + uint64(r.Intn(3)), full - uint64(r.Intn(3))}[r.Intn(3)]
	return fin(r.Intn(2) == 0, m, e)
}

// expect fails the test unless a number is the wanted one, which may be.
func expect(t *testing.T, what string, got, want api.Num) {
	t.Helper()
	if !mayBe(want) {
		t.Fatalf("%s: the wanted %v may not be", what, want)
	}
	if got != want {
		t.Errorf("%s: got %v, want %v", what, got, want)
	}
}
