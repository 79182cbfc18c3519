package atan_test

import (
	"math/rand"
	"testing"

	"pelorus/api"
	"pelorus/arith"
	"pelorus/atan"
	"pelorus/iv"
	"pelorus/num"
	"pelorus/sample"
)

// TestOfWrittenOut has intervals on each side of nought and around it, within -1 and 1 and across them, with finite and
// with infinite ends, written out by what the ends make.
func TestOfWrittenOut(t *testing.T) { // P13.3
	at := atan.Atan
	half, third := power(-1), pos(0xaaaaaaaaaaaaaaaa, -65)
	for _, x := range []api.Iv{
		points(-3, -2), points(-1, 0), points(-2, 1), points(0, 0), points(0, 1), points(1, 1), points(1, 2), points(0, 5), points(-1, 1),
		span(third, half), span(minus(half), third), span(minus(half), minus(third)), span(half, num.Of(1)), span(third, num.Of(7)),
		span(num.Of(-7), minus(third)), span(minus(half), num.Of(3)), span(tiny(true), tiny(false)), span(tiny(false), huge(false)),
		span(huge(true), huge(false)), span(huge(true), tiny(true)),
	} {
		expect(t, "AtanOf", atan.AtanOf(x), span(at(x.Lo).Lo, at(x.Hi).Hi))
		checkOf(t, x)
	}
	for _, n := range []api.Num{{}, num.Of(1), num.Of(-1), half, num.Of(9), num.Of(-9), tiny(false), tiny(true), power(20)} {
		expect(t, "AtanOf what goes on above", atan.AtanOf(span(n, inf(false))), span(at(n).Lo, aHalf.Hi))
		expect(t, "AtanOf what goes on below", atan.AtanOf(span(inf(true), n)), span(minus(aHalf.Hi), at(n).Hi))
	}
	// The Huge's angle, of a difference, is told to a greater one than that of the infinite one: the hull has both.
	expect(t, "AtanOf from the Huge on", atan.AtanOf(span(huge(false), inf(false))), around(0xc90fdaa22168c233, -63, 3))
	expect(t, "AtanOf up to its opposite", atan.AtanOf(span(inf(true), huge(true))), opposite(around(0xc90fdaa22168c233, -63, 3)))
	expect(t, "AtanOf all", atan.AtanOf(iv.All()), span(minus(aHalf.Hi), aHalf.Hi))
}

func TestOfNone(t *testing.T) { // P13.3, the Words of chapter 8
	expect(t, "AtanOf the empty one", atan.AtanOf(none()), none())
	for _, bad := range sample.IvMayNot() {
		if got := atan.AtanOf(bad); got != none() {
			t.Errorf("AtanOf(%v): %v", bad, got)
		}
	}
}

func TestOfPoints(t *testing.T) { // P13.3
	for _, n := range numbers() {
		expect(t, "AtanOf a point", atan.AtanOf(span(n, n)), atan.Atan(n))
	}
}

// someInterval is one with ends of which most are not far from 1 or -1.
func someInterval(r *rand.Rand) api.Iv {
	a := fin(r.Intn(2) == 0, sample.Word(r), -60-r.Intn(8))
	b := fin(r.Intn(2) == 0, sample.Word(r), -60-r.Intn(8))
	if less(b, a) {
		a, b = b, a
	}
	return span(a, b)
}

func TestOfMany(t *testing.T) { // P13.3
	for _, x := range append(sample.Ivs(), sample.FewIvs()...) {
		checkOf(t, x)
	}
	r := rand.New(rand.NewSource(3))
	for range 1500 {
		checkOf(t, someInterval(r))
	}
}

// TestOfIntervalsHasExact has exact angles of numbers of an interval within what is answered of it.
func TestOfIntervalsHasExact(t *testing.T) { // P13.5
	r := rand.New(rand.NewSource(4))
	for range 200 {
		x := someInterval(r)
		got := atan.AtanOf(x)
		within := []api.Num{x.Lo, x.Hi, iv.Mid(x)}
		for range 5 {
			step := arith.Mul(iv.Width(x), pos(high|r.Uint64(), -64-r.Intn(6)), false)
			within = append(within, num.Least(arith.Add(x.Lo, step, false), x.Hi))
		}
		for _, n := range within {
			if lo, hi := exact(n, num.Of(1)); place(got.Lo).Cmp(lo) > 0 || place(got.Hi).Cmp(hi) < 0 {
				t.Errorf("AtanOf(%v): %v, but not that of %v", x, got, n)
			}
		}
	}
}
