package ivop_test

import (
	"fmt"
	"math"
	"math/big"
	"math/rand"
	"testing"

	"pelorus/api"
	"pelorus/ivop"
	"pelorus/num"
	"pelorus/sample"
)

const (
	minE = -1 << 20
	maxE = 1 << 20
	high = 1 << 63
	full = math.MaxUint64
)

var (
	pos, tiny, huge   = sample.Pos, sample.Tiny, sample.Huge
	inf, power, minus = sample.Inf, sample.Power, sample.Minus
	from, none, less  = sample.Span, sample.None, sample.Less
	nought, one       = api.Num{}, num.Of(1)
	next, below       = pos(high+1, -63), pos(full, -64) // 1's neighbours
	third             = pos(0xaaaaaaaaaaaaaaaa, -65)     // the next one below the third part of 1
	over              = pos(0xaaaaaaaaaaaaaaab, -65)     // the next one above it
	all               = from(inf(true), inf(false))
)

// span is from one whole number to another one, which is not less.
func span(a, b int) api.Iv { return from(num.Of(a), num.Of(b)) }

// at is one number alone.
func at(n api.Num) api.Iv { return from(n, n) }

// on is all numbers from one on.
func on(n api.Num) api.Iv { return from(n, inf(false)) }

// upTo is all numbers up to one.
func upTo(n api.Num) api.Iv { return from(inf(true), n) }

// opposite is all opposites of what an interval has.
func opposite(x api.Iv) api.Iv {
	if x.Empty {
		return x
	}
	return from(minus(x.Hi), minus(x.Lo))
}

// within tells whether all of one interval is within another one; both may be.
func within(a, b api.Iv) bool {
	return a.Empty || !b.Empty && !less(a.Lo, b.Lo) && !less(b.Hi, a.Hi)
}

// expect fails the test unless an interval is the wanted one, which may be.
func expect(t *testing.T, what string, got, want api.Iv) {
	t.Helper()
	if !sample.IvMayBe(want) {
		t.Fatalf("%s: the wanted %v may not be", what, want)
	}
	if got != want {
		t.Errorf("%s: got %v, want %v", what, got, want)
	}
}

// exact is a number of the library's that is not rounded: it has more bits than any sum here needs.
func exact() *big.Float { return new(big.Float).SetPrec(1 << 24) }

// float is a number as one of the library's, exactly; n may be.
func float(n api.Num) *big.Float {
	if n.Kind == api.Inf {
		return exact().SetInf(n.Neg)
	}
	out := exact().SetMantExp(exact().SetUint64(n.M), n.E)
	if n.Neg {
		out.Neg(out)
	}
	return out
}

// side tells of a number whether it is less than a real one (-1), the same (0), or greater (1).
type side func(n *big.Float) int

// beside is the side of a real number that the library has.
func beside(x *big.Float) side {
	return func(n *big.Float) int { return n.Cmp(x) }
}

// operation is one of the chapter's, and what it makes of two real numbers, by the library's: nil, if nothing. An
// operation of one leaves the second one aside.
type operation struct {
	name  string
	of    func(a, b api.Iv) api.Iv
	makes func(x, y *big.Float) side
}

// ofTwo are the operations of two.
func ofTwo() []operation {
	return []operation{
		{"Add", func(a, b api.Iv) api.Iv { return ivop.Add(a, b) }, func(x, y *big.Float) side { return beside(exact().Add(x, y)) }},
		{"Sub", ivop.Sub, func(x, y *big.Float) side { return beside(exact().Sub(x, y)) }},
		{"Mul", ivop.Mul, func(x, y *big.Float) side { return beside(exact().Mul(x, y)) }},
		{"Div", ivop.Div, quotient},
	}
}

// ofOne are the operations of one.
func ofOne() []operation {
	return []operation{
		{"Neg", first(ivop.Neg), func(x, _ *big.Float) side { return beside(exact().Neg(x)) }},
		{"Abs", first(ivop.Abs), func(x, _ *big.Float) side { return beside(exact().Abs(x)) }},
		{"Sqr", first(ivop.Sqr), func(x, _ *big.Float) side { return beside(exact().Mul(x, x)) }},
		{"Root", first(ivop.Root), root},
	}
}

// first is an operation of one as one of two.
func first(of func(api.Iv) api.Iv) func(a, b api.Iv) api.Iv {
	return func(a, _ api.Iv) api.Iv { return of(a) }
}

// quotient is x by y: a number is held against it times y, as the library would round the quotient.
func quotient(x, y *big.Float) side {
	if y.Sign() == 0 {
		return nil
	}
	return func(n *big.Float) int { return exact().Mul(n, y).Cmp(x) * y.Sign() }
}

// root is the root of x: a number's square is held against x.
func root(x, _ *big.Float) side {
	if x.Sign() < 0 {
		return nil
	}
	return func(n *big.Float) int {
		if n.Sign() < 0 {
			return -1
		}
		return exact().Mul(n, n).Cmp(x)
	}
}

// places are real numbers at which what is answered goes wrong: few numbers, and some so near to nought, or so far away,
// that none of ours is, nor what is made of them and one of ours.
func places() []*big.Float {
	var out []*big.Float
	for _, n := range sample.Few() {
		if n.Kind != api.Inf {
			out = append(out, float(n))
		}
	}
	for _, e := range []int{-4 * maxE, 4 * maxE} {
		x := exact().SetMantExp(big.NewFloat(1), e)
		out = append(out, x, exact().Neg(x))
	}
	return out
}

// set is an interval, and some of the real numbers that it has.
type set struct {
	api.Iv
	reals []*big.Float
}

// sets are intervals, and those of the places that each has, with its ends.
func sets(l ...api.Iv) []set {
	around := places()
	var out []set
	for _, x := range l {
		s := set{Iv: x}
		lo, hi := float(x.Lo), float(x.Hi)
		for _, p := range append([]*big.Float{lo, hi}, around...) {
			if !x.Empty && !p.IsInf() && lo.Cmp(p) <= 0 && p.Cmp(hi) <= 0 {
				s.reals = append(s.reals, p)
			}
		}
		out = append(out, s)
	}
	return out
}

// checkAround holds that an operation's answer has what is made of each two numbers, that it is empty if nothing is,
// and that none with an end nearer by one number would do.
func checkAround(t *testing.T, op operation, a, b set) {
	t.Helper()
	got := op.of(a.Iv, b.Iv)
	what := fmt.Sprintf("%s of %v and %v: %v", op.name, a.Iv, b.Iv, got)
	if !sample.IvMayBe(got) {
		t.Fatalf("%s: may not be", what)
	}
	lo, hi := float(got.Lo), float(got.Hi)
	after, ahead := float(num.Next(got.Lo, true)), float(num.Next(got.Hi, false))
	some, least, most := false, false, false
	for _, x := range a.reals {
		for _, y := range b.reals {
			is := op.makes(x, y)
			if is == nil {
				continue
			}
			if got.Empty || is(lo) > 0 || is(hi) < 0 {
				t.Fatalf("%s: has not that of %.6g and %.6g", what, x, y)
			}
			some, least, most = true, least || is(after) > 0, most || is(ahead) < 0
		}
	}
	switch {
	case some == got.Empty:
		t.Fatalf("%s: is it to be empty? %v", what, !some)
	case op.name == "Div" && within(at(nought), a.Iv) && within(at(nought), b.Iv) && some:
		expect(t, what, got, all) // P9.3 asks for more than the quotients here
	case some && !(least && most):
		t.Fatalf("%s: an end could be nearer: %v, %v", what, !least, !most)
	}
}

// anyIv is an interval by chance, next to nought, to 1 or to the Huge, with an infinite end now and then.
func anyIv(r *rand.Rand) api.Iv {
	a, b := sample.Num(r), sample.Num(r)
	switch r.Intn(8) {
	case 0:
		b = num.Next(a, true)
	case 1:
		b = nought
	case 2:
		b = inf(r.Intn(2) == 0)
	case 3:
		b = a
	}
	if less(b, a) {
		a, b = b, a
	}
	return from(a, b)
}
