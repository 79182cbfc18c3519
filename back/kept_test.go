package back_test

import (
	"math/big"
	"math/rand"
	"testing"

	"pelorus/api"
	"pelorus/num"
	"pelorus/sample"
)

// exact is a number of the library's that is not rounded: it has more bits than any sum here needs.
func exact() *big.Float { return new(big.Float).SetPrec(1 << 24) }

// float is a number as one of the library's, exactly; n may be.
func float(n api.Num) *big.Float {
	if n.Kind == api.Inf {
		return exact().SetInf(n.Neg)
	}
	out := exact().SetMantExp(exact().SetUint64(n.M), n.E)
	if n.Neg {
		out.Neg(out)
	}
	return out
}

// has tells whether an interval, which may be, has a real number.
func has(x api.Iv, n *big.Float) bool {
	return !x.Empty && float(x.Lo).Cmp(n) <= 0 && n.Cmp(float(x.Hi)) <= 0
}

// solution are real numbers: z is what an operation makes of x and y.
type solution struct{ z, x, y *big.Float }

// solve finds numbers of which a call's operation makes another one, exactly, by two of them; false, if there are none.
func solve(name string, a, b *big.Float) (solution, bool) {
	switch name {
	case "Plus":
		return solution{exact().Add(a, b), a, b}, true
	case "Minus":
		return solution{exact().Sub(a, b), a, b}, true
	case "Times":
		return solution{exact().Mul(a, b), a, b}, true
	case "Over":
		return solution{a, exact().Mul(a, b), b}, b.Sign() != 0
	case "Sqr":
		return solution{exact().Mul(a, a), a, b}, true
	case "Root":
		return solution{a, exact().Mul(a, a), b}, a.Sign() >= 0
	}
	return solution{exact().Neg(a), a, b}, true
}

// places are real numbers at which what is left goes wrong: the ends of the intervals, their squares and parts, and some
// so near to nought, or so far away, that none of ours is.
func places() []*big.Float {
	list := append(sample.Few(), num.Of(3), num.Of(-3), num.Of(9), power(-1), next, minus(below), bit)
	var out []*big.Float
	for _, n := range list {
		if n.Kind != api.Inf {
			out = append(out, float(n))
		}
	}
	for _, e := range []int{-2 * maxE, 2 * maxE} {
		x := exact().SetMantExp(big.NewFloat(1), e)
		out = append(out, x, exact().Neg(x))
	}
	return out
}

// fits are those of some solutions that are within the intervals.
func fits(l []solution, z, x, y []bool) []solution {
	var out []solution
	for i, s := range l {
		if z[i] && x[i] && y[i] {
			out = append(out, s)
		}
	}
	return out
}

// told is a real number in short; its power is one of two, as one of ten would take long.
func told(x *big.Float) string { return new(big.Float).SetPrec(64).Set(x).Text('p', 0) }

// checkKept holds that solutions within the intervals are in what is left of these.
func checkKept(t *testing.T, c call, l []solution, z, x, y api.Iv) {
	t.Helper()
	left, right := c.of(z, x, y)
	for _, s := range l {
		if !has(left, s.x) || !has(right, s.y) {
			t.Fatalf("%s of %v, %v and %v: %v, %v: of %s and %s it makes %s", c.name, z, x, y, left, right, told(s.x), told(s.y), told(s.z))
		}
	}
}

// TestSolutionsAreLeft asks for intervals of each kind, and holds that those with solutions were asked for.
func TestSolutionsAreLeft(t *testing.T) { // P10.4
	ivs := append(sample.FewIvs(), at(nought), span(-3, -3), span(9, 9), from(below, next))
	for _, c := range every() {
		var l []solution
		for _, a := range places() {
			for _, b := range places() {
				if s, is := solve(c.name, a, b); is {
					l = append(l, s)
				}
			}
		}
		var z, x, y [][]bool // of each interval which solutions have their number in it
		for _, v := range ivs {
			var inZ, inX, inY []bool
			for _, s := range l {
				inZ, inX, inY = append(inZ, has(v, s.z)), append(inX, has(v, s.x)), append(inY, has(v, s.y))
			}
			z, x, y = append(z, inZ), append(x, inX), append(y, inY)
		}
		asked := 0
		for i := range ivs {
			for j := range ivs {
				for k := range ivs {
					kept := fits(l, z[i], x[j], y[k])
					asked += len(kept)
					checkKept(t, c, kept, ivs[i], ivs[j], ivs[k])
				}
			}
		}
		if asked < 1000 {
			t.Errorf("%s: %d solutions alone", c.name, asked)
		}
	}
}

// nearest is the nearest number of ours on a side of a real one, which is within our range.
func nearest(x *big.Float, up bool) api.Num {
	mode := big.ToNegativeInf
	if up {
		mode = big.ToPositiveInf
	}
	m := new(big.Float).SetPrec(64).SetMode(mode).Set(x)
	if m.Sign() == 0 {
		return nought
	}
	e := m.MantExp(m) - 64
	word, _ := m.SetMantExp(m, 64).Abs(m).Uint64()
	return sample.Fin(x.Sign() < 0, word, e)
}

// TestNearest holds that the numbers on either side have a real one between, and none of ours has.
func TestNearest(t *testing.T) {
	r := rand.New(rand.NewSource(2))
	for range 1000 {
		x := anyReal(r)
		lo, hi := nearest(x, false), nearest(x, true)
		if !sample.MayBe(lo) || !sample.MayBe(hi) || !has(from(lo, hi), x) || lo != hi && hi != num.Next(lo, true) {
			t.Fatalf("%s is between %v and %v", told(x), lo, hi)
		}
	}
}

// anyReal is a real number by chance, of ours or between two of them; nought now and then.
func anyReal(r *rand.Rand) *big.Float {
	word := func() *big.Float { return exact().SetUint64(sample.Word(r)) }
	x := exact().SetMantExp(word(), r.Intn(140)-130)
	switch r.Intn(8) {
	case 0:
		return exact()
	case 1, 2, 3:
		x.Add(x, exact().SetMantExp(word(), r.Intn(20)-220))
	}
	if r.Intn(2) == 0 {
		x.Neg(x)
	}
	return x
}

// around is an interval by chance that has a real number, and no more than it must, or more on either side.
func around(r *rand.Rand, x *big.Float) api.Iv {
	lo, hi := nearest(x, false), nearest(x, true)
	for range r.Intn(3) {
		lo = num.Next(lo, false)
	}
	for range r.Intn(3) {
		hi = num.Next(hi, true)
	}
	switch r.Intn(6) {
	case 0:
		lo = inf(true)
	case 1:
		hi = inf(false)
	case 2:
		if x.Sign() >= 0 {
			lo = nought
		} else {
			hi = nought
		}
	case 3:
		lo, hi = num.Least(lo, minus(hi)), num.Most(hi, minus(lo))
	}
	return from(lo, hi)
}

// TestSolutionsAreLeftByChance asks for narrow intervals, so that ends on the wrong side of what is rounded are told.
func TestSolutionsAreLeftByChance(t *testing.T) { // P10.4
	r := rand.New(rand.NewSource(1))
	for range 5000 {
		a, b := anyReal(r), anyReal(r)
		for _, c := range every() {
			if s, is := solve(c.name, a, b); is {
				z, x, y := around(r, s.z), around(r, s.x), around(r, s.y)
				checkKept(t, c, []solution{s}, z, x, y)
				checkLetter(t, c, z, x, y)
			}
		}
	}
}
