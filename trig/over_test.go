package trig_test

import (
	"math/rand"
	"testing"

	"pelorus/api"
	"pelorus/arith"
	"pelorus/iv"
	"pelorus/num"
	"pelorus/sample"
	"pelorus/trig"
)

// TestExamples has those of the chapter.
func TestExamples(t *testing.T) { // the chapter's Examples
	if got := trig.Sin(num.Of(0)); !iv.Within(got, span(minus(power(-180)), power(-180))) || !iv.Has(got, num.Of(0)) {
		t.Errorf("Sin(0): %v", got)
	}
	if got := trig.CosOf(points(-1, 1)); !iv.Has(got, num.Of(1)) {
		t.Errorf("CosOf([-1, 1]): %v", got)
	}
	expect(t, "SinOf([0, 7])", trig.SinOf(points(0, 7)), unit)
}

// TestBetweenWholeNumbers has intervals with no extreme place within, with one and with both, around nought and on
// either side of it, written out by those ends of which the values are the least and the greatest.
func TestBetweenWholeNumbers(t *testing.T) { // P12.3
	sin, cos := trig.Sin, trig.Cos
	at := func(n int) api.Num { return num.Of(n) }
	for _, c := range []struct {
		lo, hi   int
		sin, cos api.Iv
	}{
		{2, 3, span(sin(at(3)).Lo, sin(at(2)).Hi), span(cos(at(3)).Lo, cos(at(2)).Hi)},
		{-1, 1, span(sin(at(-1)).Lo, sin(at(1)).Hi), span(cos(at(1)).Lo, at(1))},
		{-1, 0, span(sin(at(-1)).Lo, sin(at(0)).Hi), span(cos(at(-1)).Lo, at(1))},
		{0, 1, span(sin(at(0)).Lo, sin(at(1)).Hi), span(cos(at(1)).Lo, at(1))},
		{1, 2, span(sin(at(1)).Lo, at(1)), span(cos(at(2)).Lo, cos(at(1)).Hi)},
		{-2, -1, span(at(-1), sin(at(-1)).Hi), span(cos(at(-2)).Lo, cos(at(-1)).Hi)},
		{3, 4, span(sin(at(4)).Lo, sin(at(3)).Hi), span(at(-1), cos(at(4)).Hi)},
		{4, 5, span(at(-1), sin(at(4)).Hi), span(cos(at(4)).Lo, cos(at(5)).Hi)},
		{-4, -3, span(sin(at(-3)).Lo, sin(at(-4)).Hi), span(at(-1), cos(at(-4)).Hi)},
		{-5, -4, span(sin(at(-4)).Lo, at(1)), span(cos(at(-4)).Lo, cos(at(-5)).Hi)},
		{-2, 2, unit, span(cos(at(2)).Lo, at(1))},
		{1, 5, unit, span(at(-1), cos(at(1)).Hi)},
		{-1, 2, span(sin(at(-1)).Lo, at(1)), span(cos(at(2)).Lo, at(1))},
		{0, 3, span(sin(at(0)).Lo, at(1)), span(cos(at(3)).Lo, at(1))},
		{0, 4, span(sin(at(4)).Lo, at(1)), unit},
		{3, 7, span(at(-1), sin(at(7)).Hi), unit},
		{5, 8, span(sin(at(5)).Lo, at(1)), span(cos(at(8)).Lo, at(1))},
		{2, 7, span(at(-1), sin(at(2)).Hi), unit},
		{20, 21, span(sin(at(21)).Lo, at(1)), span(cos(at(21)).Lo, cos(at(20)).Hi)},
	} {
		x := points(c.lo, c.hi)
		expect(t, "SinOf", trig.SinOf(x), c.sin)
		expect(t, "CosOf", trig.CosOf(x), c.cos)
		checkOf(t, x)
	}
}

func TestOfPoints(t *testing.T) { // P12.3
	for _, n := range numbers() {
		for _, w := range waves() {
			expect(t, w.name+" of a point", w.of(span(n, n)), w.at(n))
		}
	}
}

// TestEndsAtCrests has ends beside each extreme place, at the nearest numbers and farther off on both sides: so far
// that what is there is less than 1, and so near that it is rounded to it.
func TestEndsAtCrests(t *testing.T) { // P12.3
	for _, k := range quarters() {
		near := nearest(k)
		ends := near
		for _, off := range []api.Num{power(-40), power(-33), power(-32), power(-31), power(-30), power(-20), power(-3)} {
			ends = append(ends, arith.Sub(near[2], off, false), arith.Add(near[3], off, true))
		}
		far := []api.Num{arith.Sub(near[2], num.Of(1), false), arith.Sub(near[2], num.Of(4), false)}
		for _, end := range ends {
			for _, lo := range far {
				checkOf(t, span(lo, end))
			}
			checkOf(t, span(end, arith.Add(near[3], num.Of(1), true)))
			checkOf(t, span(end, arith.Add(near[3], num.Of(4), true)))
			checkOf(t, span(end, end))
		}
	}
}

// TestCrestsAreReached tells, by the multiples of a half of pi alone, whether an end that is just short of one, or
// beyond it, has 1 or -1: an odd multiple is an extreme place of the sine, an even one of the cosine.
func TestCrestsAreReached(t *testing.T) { // P12.3
	for _, k := range quarters() {
		if k > 1e6+1 || k < -1e6-1 {
			continue // the numbers there are too far from each other
		}
		near := nearest(k)
		from, to := arith.Sub(near[2], num.Of(1), false), arith.Add(near[3], num.Of(1), true)
		short, beyond := arith.Sub(near[2], power(-20), false), arith.Add(near[3], power(-20), true)
		w := waves()[(k&1)^1]
		crest := num.Of(1 - int(k&2))
		if k&1 == 1 {
			crest = num.Of(1 - int((k-1)&2))
		}
		for _, x := range []api.Iv{span(from, short), span(beyond, to)} {
			if iv.Has(w.of(x), num.Of(1)) || iv.Has(w.of(x), num.Of(-1)) {
				t.Errorf("%s of %v, which is short of %d: %v", w.name, x, k, w.of(x))
			}
		}
		for _, x := range []api.Iv{span(from, beyond), span(short, to), span(from, near[3]), span(near[2], to), span(near[2], near[3])} {
			if got := w.of(x); !iv.Has(got, crest) || iv.Has(got, minus(crest)) {
				t.Errorf("%s of %v, which has %d: %v", w.name, x, k, got)
			}
		}
	}
}

// TestWideIntervals has widths around that of a whole turn, and around 7.
func TestWideIntervals(t *testing.T) { // P12.3
	seven := num.Of(7)
	for _, lo := range []int{-1000, -20, -7, -6, -3, -1, 0, 1, 2, 5, 1000, 1 << 29} {
		for _, width := range []api.Num{
			num.Of(6), pos(0xc8<<56, -61), pos(0xc90fdaa22168c234, -61), pos(0xc90fdaa22168c235, -61), num.Next(seven, false),
			seven, num.Next(seven, true), num.Of(8), num.Of(100), num.Of(1 << 29),
		} {
			x := span(num.Of(lo), arith.Add(num.Of(lo), width, false))
			checkOf(t, x)
			if less(width, seven) {
				continue
			}
			expect(t, "SinOf a wide one", trig.SinOf(x), unit)
			expect(t, "CosOf a wide one", trig.CosOf(x), unit)
		}
	}
}

func TestEndsTooFar(t *testing.T) { // P12.3
	far := power(30)
	for _, x := range []api.Iv{
		span(inf(true), inf(false)), span(inf(true), num.Of(0)), span(num.Of(0), inf(false)), span(far, inf(false)),
		span(inf(true), minus(far)), span(far, far), span(minus(far), minus(far)), span(num.Next(far, false), far),
		span(minus(far), num.Next(minus(far), true)), span(far, num.Next(far, true)), span(huge(true), huge(false)),
		span(huge(false), huge(false)), span(huge(false), inf(false)), span(inf(true), huge(true)), span(tiny(true), huge(false)),
	} {
		expect(t, "SinOf one with an end too far", trig.SinOf(x), unit)
		expect(t, "CosOf one with an end too far", trig.CosOf(x), unit)
		checkOf(t, x)
	}
	// Both ends are just near enough.
	for _, x := range []api.Iv{span(num.Of(1<<30-1), pos(full, -34)), span(fin(true, full, -34), num.Of(-1<<30+1))} {
		checkOf(t, x)
		if trig.SinOf(x) == unit || trig.CosOf(x) == unit {
			t.Errorf("%v: an end is too far", x)
		}
	}
}

func TestOfTheEmptyOne(t *testing.T) { // P12.3, the Words of chapter 8
	for _, x := range append(sample.IvMayNot(), none()) {
		expect(t, "SinOf none", trig.SinOf(x), none())
		expect(t, "CosOf none", trig.CosOf(x), none())
	}
}

// someInterval is an interval with ends nearer to nought than 2^30, most of them narrower than 7.
func someInterval(r *rand.Rand) api.Iv {
	lo := fin(r.Intn(2) == 0, sample.Word(r), -36-r.Intn(40))
	hi := arith.Add(lo, pos(sample.Word(r), -61-r.Intn(30)), r.Intn(2) == 0)
	return span(lo, hi)
}

func TestOfMany(t *testing.T) { // P12.3
	for _, x := range append(sample.Ivs(), sample.FewIvs()...) {
		checkOf(t, x)
	}
	r := rand.New(rand.NewSource(3))
	for range 4000 {
		checkOf(t, someInterval(r))
	}
}

// TestOfIntervalsHasExact has exact sines and cosines of numbers of an interval within what is answered of it.
func TestOfIntervalsHasExact(t *testing.T) { // P12.4
	r := rand.New(rand.NewSource(4))
	for range 500 {
		x := someInterval(r)
		within := []api.Num{x.Lo, x.Hi, iv.Mid(x)}
		for range 8 {
			step := arith.Mul(iv.Width(x), pos(high|r.Uint64(), -64-r.Intn(6)), false)
			within = append(within, num.Least(arith.Add(x.Lo, step, false), x.Hi))
		}
		for _, w := range waves() {
			got := w.of(x)
			if !iv.Within(got, unit) {
				t.Errorf("%s of %v: %v is beyond 1", w.name, x, got)
			}
			for _, n := range within {
				if !hasExact(got, n, w.cosine) {
					t.Errorf("%s of %v: %v, but not that of %v", w.name, x, got, n)
				}
			}
		}
	}
}
