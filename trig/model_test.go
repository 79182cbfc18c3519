package trig_test

import (
	"math"
	"math/big"
	"testing"

	"pelorus/api"
	"pelorus/iv"
	"pelorus/num"
	"pelorus/pi"
	"pelorus/sample"
	"pelorus/trig"
)

const (
	high  = 1 << 63
	full  = math.MaxUint64
	scale = 192 // what a fixed number is divided by is 2 to this power
)

var (
	fin, pos, tiny, huge = sample.Fin, sample.Pos, sample.Tiny, sample.Huge
	inf, power, minus    = sample.Inf, sample.Power, sample.Minus
	span, none, less     = sample.Span, sample.None, sample.Less
	unit                 = span(num.Of(-1), num.Of(1))

	one = bit(scale)
	// pi's Bounds, as they were worked out by another program.
	pl = hex("3243f6a8885a308d313198a2e03707344a4093822299f2f2c")
	ph = hex("3243f6a8885a308d313198a2e03707344a4093822299f34b4")
)

func whole(n int64) *big.Int { return big.NewInt(n) }

// bit is 2^k.
func bit(k uint) *big.Int { return new(big.Int).Lsh(whole(1), k) }

func add(a, b *big.Int) *big.Int { return new(big.Int).Add(a, b) }
func sub(a, b *big.Int) *big.Int { return new(big.Int).Sub(a, b) }
func mul(a, b *big.Int) *big.Int { return new(big.Int).Mul(a, b) }
func neg(a *big.Int) *big.Int    { return new(big.Int).Neg(a) }

// by is a by b, which is above 0, rounded down: the library's leaves a rest from 0 on.
func by(a, b *big.Int) *big.Int { return new(big.Int).Div(a, b) }

// shift is n times 2^e, rounded down.
func shift(n *big.Int, e int) *big.Int {
	if e < 0 {
		return new(big.Int).Rsh(n, uint(-e)) // the library's keeps the sign, and so rounds to below
	}
	return new(big.Int).Lsh(n, uint(e))
}

// signed is a finite number's M, with its sign.
func signed(n api.Num) *big.Int {
	out := new(big.Int).SetUint64(n.M)
	if n.Neg {
		out.Neg(out)
	}
	return out
}

// hex is a number of the library's, told by its digits.
func hex(digits string) *big.Int {
	out, is := new(big.Int).SetString(digits, 16)
	if !is {
		panic(digits)
	}
	return out
}

// numberOf is a whole number as one of the library's; it fails the test if that may not be.
func numberOf(t *testing.T, w api.Whole) *big.Int {
	t.Helper()
	if !sample.WholeMayBe(w) {
		t.Fatalf("%v may not be", w)
	}
	out := new(big.Int).SetBytes(sample.Bytes(w.M))
	if w.Neg {
		return neg(out)
	}
	return out
}

// expect fails the test unless an interval is the wanted one, which may be.
func expect(t *testing.T, what string, got, want api.Iv) {
	t.Helper()
	if !sample.IvMayBe(want) {
		t.Fatalf("%s: the wanted %v may not be", what, want)
	}
	if got != want {
		t.Errorf("%s: got %v, want %v", what, got, want)
	}
}

// points is the interval from one whole number to another one, which is not less.
func points(lo, hi int) api.Iv { return span(num.Of(lo), num.Of(hi)) }

// series is Series(m) by the chapter's words.
func series(m *big.Int) *big.Int {
	if m.CmpAbs(mul(whole(4), one)) > 0 {
		return new(big.Int)
	}
	t, sum := m, m
	for k := int64(1); k < 41; k++ {
		v := by(mul(t, m), one)
		u := by(mul(v, m), one)
		t = neg(by(u, whole(2*k*(2*k+1))))
		sum = add(sum, t)
	}
	return sum
}

// uncut is the sine between two fixed numbers by the chapter's words, ahead of the cut at -1 and 1.
func uncut(x, y *big.Int) (*big.Int, *big.Int) {
	q := by(add(mul(whole(2), x), pl), mul(whole(2), pl))
	r, t := sub(x, mul(q, ph)), sub(y, mul(q, pl))
	if q.Sign() < 0 {
		r, t = sub(x, mul(q, pl)), sub(y, mul(q, ph))
	}
	s, e := series(r), add(sub(t, r), whole(200))
	lo, hi := sub(s, e), add(s, e)
	if q.Bit(0) == 1 {
		lo, hi = neg(hi), neg(lo)
	}
	return lo, hi
}

// cut is -1 or 1, as a fixed number, if n is beyond it.
func cut(n *big.Int) *big.Int {
	if n.Cmp(one) > 0 {
		return one
	}
	if n.Cmp(neg(one)) < 0 {
		return neg(one)
	}
	return n
}

// fixed is pi's Fix of a number; false: there is none.
func fixed(n api.Num) (*big.Int, bool) {
	if !sample.MayBe(n) {
		return new(big.Int), true
	}
	// As M has its highest bit, the number is 2^30 or more as soon as E is this.
	if n.Kind == api.Inf || n.Kind == api.Finite && n.E >= 30-63 {
		return nil, false
	}
	return shift(signed(n), n.E+scale), true
}

// wave is one of both functions, and what it is by the chapter's words.
type wave struct {
	name   string
	at     func(api.Num) api.Iv
	of     func(api.Iv) api.Iv
	cosine bool
}

func waves() []wave {
	return []wave{{"sine", trig.Sin, trig.SinOf, false}, {"cosine", trig.Cos, trig.CosOf, true}}
}

// between are the two fixed numbers between which a wave's sine is, of a number with a fixed one.
func (w wave) between(f *big.Int) (*big.Int, *big.Int) {
	x, y := f, add(f, whole(1))
	if w.cosine {
		x, y = add(x, by(pl, whole(2))), add(y, by(add(ph, whole(1)), whole(2)))
	}
	return x, y
}

// wantAt is Sin or Cos of a number by the chapter's words.
func (w wave) wantAt(n api.Num) api.Iv {
	f, is := fixed(n)
	if !is {
		return unit
	}
	lo, hi := uncut(w.between(f))
	return pi.Part(sample.Whole(cut(lo)), sample.Whole(cut(hi)))
}

// crest is what twice the place of an extreme lies between, by the chapter's words.
func (w wave) crest(j *big.Int) (*big.Int, *big.Int) {
	many := mul(whole(2), j)
	if !w.cosine {
		many = add(many, whole(1))
	}
	lo, hi := mul(many, pl), mul(many, ph)
	if lo.Cmp(hi) > 0 {
		lo, hi = hi, lo
	}
	return lo, hi
}

// wantOf is SinOf or CosOf of an interval by the chapter's words.
func (w wave) wantOf(x api.Iv) api.Iv {
	if x.Empty || !sample.IvMayBe(x) {
		return none()
	}
	a, isA := fixed(x.Lo)
	b, isB := fixed(x.Hi)
	if !isA || !isB || !less(iv.Width(x), num.Of(7)) {
		return unit
	}
	lo, hi := mul(whole(2), a), add(mul(whole(2), b), whole(2))
	out := []api.Iv{w.wantAt(x.Lo), w.wantAt(x.Hi)}
	// More places than there are in a width of 7, on both sides.
	near := by(lo, mul(whole(2), pl))
	for k := int64(-6); k <= 12; k++ {
		j := add(near, whole(k))
		from, to := w.crest(j)
		if to.Cmp(lo) >= 0 && from.Cmp(hi) <= 0 {
			n := num.Of(1 - 2*int(j.Bit(0)))
			out = append(out, span(n, n))
		}
	}
	return iv.Hull(out...)
}

// checkAt holds what both are at a number against the chapter's words.
func checkAt(t *testing.T, n api.Num) {
	t.Helper()
	for _, w := range waves() {
		if got, want := w.at(n), w.wantAt(n); got != want {
			t.Fatalf("%s of %v: got %v, want %v", w.name, n, got, want)
		}
	}
}

// checkOf holds what both are over an interval against the chapter's words.
func checkOf(t *testing.T, x api.Iv) {
	t.Helper()
	for _, w := range waves() {
		if got, want := w.of(x), w.wantOf(x); got != want {
			t.Fatalf("%s of %v: got %v, want %v", w.name, x, got, want)
		}
	}
}
