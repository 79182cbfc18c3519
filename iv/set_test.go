package iv_test

import (
	"math/rand"
	"testing"

	"pelorus/api"
	"pelorus/iv"
	"pelorus/num"
	"pelorus/sample"
)

func TestMay(t *testing.T) { // P8.1, the chapter's Words
	for _, x := range append(sample.Ivs(), sample.FewIvs()...) {
		if !iv.May(x) {
			t.Errorf("%v may be", x)
		}
	}
	for _, x := range sample.IvMayNot() {
		if iv.May(x) {
			t.Errorf("%v may not be", x)
		}
	}
}

// TestMayOfAllKindsOfEnds has each end of all kinds, so that each is asked for with each other.
func TestMayOfAllKindsOfEnds(t *testing.T) { // P8.1
	ends := append(sample.Few(), sample.MayNot()...)
	for _, lo := range ends {
		for _, hi := range ends {
			for _, empty := range []bool{false, true} {
				x := api.Iv{Empty: empty, Lo: lo, Hi: hi}
				if got, want := iv.May(x), sample.IvMayBe(x); got != want {
					t.Errorf("May(%v): %v", x, got)
				}
			}
		}
	}
}

func TestNoneAndAll(t *testing.T) { // P8.1
	expect(t, "None", iv.None(), api.Iv{Empty: true})
	expect(t, "All", iv.All(), api.Iv{Lo: api.Num{Kind: api.Inf, Neg: true}, Hi: api.Num{Kind: api.Inf}})
	for _, n := range probes() {
		if iv.Has(iv.None(), n) || !iv.Has(iv.All(), n) {
			t.Errorf("%v: in none %v, in all %v", n, iv.Has(iv.None(), n), iv.Has(iv.All(), n))
		}
	}
}

func TestMake(t *testing.T) { // P8.1
	for _, c := range []struct {
		lo, hi api.Num
		want   api.Iv
	}{
		{num.Of(1), num.Of(2), span(1, 2)}, {num.Of(2), num.Of(1), none()}, {num.Of(2), num.Of(2), span(2, 2)},
		{nought, nought, api.Iv{}},
		{num.Of(-2), num.Of(-1), span(-2, -1)}, {num.Of(-1), num.Of(-2), none()},
		{num.Of(1), pos(high+1, -63), from(num.Of(1), pos(high+1, -63))},
		{pos(high+1, -63), num.Of(1), none()}, {num.Of(-1), nought, span(-1, 0)}, {nought, num.Of(-1), none()},
		{inf(true), inf(false), all}, {inf(false), inf(true), none()}, {inf(false), inf(false), none()},
		{inf(true), inf(true), none()},
		{inf(true), num.Of(7), from(inf(true), num.Of(7))}, {num.Of(7), inf(true), none()},
		{num.Of(7), inf(false), from(num.Of(7), inf(false))},
		{inf(false), num.Of(7), none()}, {inf(true), nought, from(inf(true), nought)},
		{nought, inf(false), from(nought, inf(false))},
		{huge(true), huge(false), from(huge(true), huge(false))},
		{huge(false), inf(false), from(huge(false), inf(false))}, {inf(true), huge(true), from(inf(true), huge(true))},
		{tiny(true), tiny(false), from(tiny(true), tiny(false))}, {tiny(false), tiny(true), none()},
	} {
		expect(t, "Make", iv.Make(c.lo, c.hi), c.want)
	}
	ends := append(sample.Few(), probes()...)
	for _, lo := range ends {
		for _, hi := range ends {
			want := from(lo, hi)
			if !sample.IvMayBe(want) {
				want = none()
			}
			expect(t, "Make of two", iv.Make(lo, hi), want)
		}
	}
}

// TestMakeOfWhatMayNotBe has such a number taken for nought, and that is what is answered.
func TestMakeOfWhatMayNotBe(t *testing.T) { // P8.1
	for _, bad := range sample.MayNot() {
		expect(t, "Make ahead of 3", iv.Make(bad, num.Of(3)), span(0, 3))
		expect(t, "Make behind 3", iv.Make(num.Of(3), bad), none())
		expect(t, "Make ahead of -3", iv.Make(bad, num.Of(-3)), none())
		expect(t, "Make behind -3", iv.Make(num.Of(-3), bad), span(-3, 0))
		expect(t, "Make ahead of infinite", iv.Make(bad, inf(false)), from(nought, inf(false)))
		expect(t, "Make behind infinite", iv.Make(inf(true), bad), from(inf(true), nought))
		expect(t, "Make behind infinite above", iv.Make(inf(false), bad), none())
		expect(t, "Make ahead of infinite below", iv.Make(bad, inf(true)), none())
		expect(t, "Point", iv.Point(bad), api.Iv{})
		for _, other := range sample.MayNot() {
			expect(t, "Make of two that may not be", iv.Make(bad, other), api.Iv{})
		}
	}
}

func TestPoint(t *testing.T) { // P8.1
	for _, n := range sample.Row() {
		if n.Kind == api.Inf {
			expect(t, "Point of infinite", iv.Point(n), none())
			continue
		}
		expect(t, "Point", iv.Point(n), from(n, n))
	}
}

func TestHas(t *testing.T) { // P8.2
	for _, x := range sample.Ivs() {
		for _, n := range probes() {
			if got := iv.Has(x, n); got != has(x, n) {
				t.Errorf("Has(%v, %v): %v", x, n, got)
			}
		}
		for _, n := range []api.Num{inf(false), inf(true)} {
			if iv.Has(x, n) {
				t.Errorf("Has(%v, %v): infinite", x, n)
			}
		}
	}
}

func TestHasWhatMayNotBe(t *testing.T) { // P8.2, the chapter's Words
	for _, bad := range sample.MayNot() {
		for _, x := range sample.Ivs() {
			if got := iv.Has(x, bad); got != has(x, nought) {
				t.Errorf("Has(%v, %v): %v", x, bad, got)
			}
		}
	}
	for _, x := range sample.IvMayNot() {
		for _, n := range append(sample.Few(), sample.MayNot()[0]) {
			if iv.Has(x, n) {
				t.Errorf("Has(%v, %v): it may not be", x, n)
			}
		}
	}
}

func TestWithin(t *testing.T) { // P8.2
	for _, c := range []struct {
		a, b api.Iv
		want bool
	}{
		{span(0, 2), span(0, 2), true}, {span(0, 1), span(0, 2), true}, {span(1, 2), span(0, 2), true},
		{span(1, 1), span(0, 2), true},
		{span(0, 2), span(0, 1), false}, {span(0, 2), span(1, 2), false}, {span(0, 2), span(1, 3), false},
		{span(1, 3), span(0, 2), false},
		{span(0, 1), span(1, 2), false}, {span(0, 1), span(2, 3), false}, {span(2, 3), span(0, 1), false},
		{span(-2, 5), span(-1, 4), false},
		{none(), none(), true}, {none(), span(0, 0), true}, {none(), all, true}, {api.Iv{}, none(), false},
		{span(0, 1), none(), false},
		{all, none(), false}, {all, all, true}, {span(-1, 1), all, true}, {all, from(huge(true), huge(false)), false},
		{span(0, 1), from(inf(true), num.Of(1)), true}, {span(0, 2), from(inf(true), num.Of(1)), false},
	} {
		if got := iv.Within(c.a, c.b); got != c.want {
			t.Errorf("Within(%v, %v): %v", c.a, c.b, got)
		}
	}
}

// TestWithinAsHas has one within the other just if the other one has whatever number the first one has. An infinite
// end and the Huge are told apart by the ends.
func TestWithinAsHas(t *testing.T) { // P8.2
	far := func(x api.Iv) [2]bool {
		return [2]bool{!x.Empty && x.Lo.Kind == api.Inf, !x.Empty && x.Hi.Kind == api.Inf}
	}
	for _, a := range sample.Ivs() {
		for _, b := range sample.Ivs() {
			want := true
			for _, n := range probes() {
				want = want && (!has(a, n) || has(b, n))
			}
			for i, is := range far(a) {
				want = want && (!is || far(b)[i])
			}
			if got := iv.Within(a, b); got != want {
				t.Errorf("Within(%v, %v): %v", a, b, got)
			}
		}
	}
}

func TestMeetAndHullOfFew(t *testing.T) { // P8.3
	expect(t, "Meet of none", iv.Meet(), all)
	expect(t, "Meet of an empty list", iv.Meet([]api.Iv{}...), all)
	expect(t, "Hull of none", iv.Hull(), none())
	expect(t, "Hull of an empty list", iv.Hull([]api.Iv{}...), none())
	for _, x := range sample.Ivs() {
		expect(t, "Meet of one", iv.Meet(x), x)
		expect(t, "Hull of one", iv.Hull(x), x)
		expect(t, "Meet of the same", iv.Meet(x, x), x)
		expect(t, "Hull of the same", iv.Hull(x, x), x)
		expect(t, "Meet with none", iv.Meet(x, none()), none())
		expect(t, "Hull with none", iv.Hull(none(), x, none()), x)
		expect(t, "Meet with all", iv.Meet(all, x, all), x)
		if !x.Empty {
			expect(t, "Hull with all", iv.Hull(x, all), all)
		}
	}
	expect(t, "Hull of none of them", iv.Hull(none(), none(), none()), none())
}

func TestMeetAndHull(t *testing.T) { // P8.3, P8.6
	third := pos(0xaaaaaaaaaaaaaaaa, -65)
	for _, c := range []struct {
		l          []api.Iv
		meet, hull api.Iv
	}{
		{[]api.Iv{span(0, 2), span(1, 3)}, span(1, 2), span(0, 3)},
		{[]api.Iv{span(0, 1), span(1, 2)}, span(1, 1), span(0, 2)},
		{[]api.Iv{span(0, 1), span(3, 4)}, none(), span(0, 4)},
		{[]api.Iv{span(0, 9), span(2, 3)}, span(2, 3), span(0, 9)},
		{[]api.Iv{span(0, 9), span(0, 3)}, span(0, 3), span(0, 9)},
		{[]api.Iv{span(-5, -3), span(-4, -1)}, span(-4, -3), span(-5, -1)},
		{[]api.Iv{span(2, 2), span(2, 2), span(2, 2)}, span(2, 2), span(2, 2)},
		{[]api.Iv{span(2, 2), span(3, 3)}, none(), span(2, 3)},
		{[]api.Iv{span(1, 3), span(2, 2)}, span(2, 2), span(1, 3)},
		{[]api.Iv{span(0, 0), from(third, third)}, none(), from(nought, third)},
		{[]api.Iv{span(0, 5), span(-3, 4), span(2, 9)}, span(2, 4), span(-3, 9)},
		{[]api.Iv{span(0, 5), span(6, 7), span(5, 6)}, none(), span(0, 7)},
		{[]api.Iv{span(0, 5), none(), span(1, 6)}, none(), span(0, 6)},
		{[]api.Iv{all, span(0, 5), span(1, 6), all}, span(1, 5), all},
		{[]api.Iv{from(inf(true), num.Of(3)), from(num.Of(2), inf(false))}, span(2, 3), all},
		{[]api.Iv{from(inf(true), num.Of(2)), from(num.Of(3), inf(false))}, none(), all},
		{[]api.Iv{from(inf(true), num.Of(3)), from(inf(true), num.Of(-2))}, from(inf(true), num.Of(-2)), from(inf(true), num.Of(3))},
		{[]api.Iv{from(num.Of(1), inf(false)), span(-1, 0)}, none(), from(num.Of(-1), inf(false))},
		{[]api.Iv{from(huge(true), tiny(true)), from(tiny(false), huge(false))}, none(), from(huge(true), huge(false))},
		{[]api.Iv{from(huge(true), tiny(false)), from(tiny(true), huge(false))}, from(tiny(true), tiny(false)), from(huge(true), huge(false))},
		{[]api.Iv{span(0, 8), span(1, 7), span(2, 6), span(3, 5)}, span(3, 5), span(0, 8)},
	} {
		for _, l := range orders(c.l) {
			expect(t, "Meet", iv.Meet(l...), c.meet)
			expect(t, "Hull", iv.Hull(l...), c.hull)
			checkSets(t, l)
			var other []api.Iv
			for _, x := range l {
				other = append(other, opposite(x))
			}
			expect(t, "Meet of the opposites", iv.Meet(other...), opposite(c.meet))
			expect(t, "Hull of the opposites", iv.Hull(other...), opposite(c.hull))
		}
	}
}

// checkSets holds that what all of a list have is just what their meet has, that each is within the hull, and that no
// end of the hull could be nearer.
func checkSets(t *testing.T, l []api.Iv) {
	t.Helper()
	meet, hull := iv.Meet(l...), iv.Hull(l...)
	if !sample.IvMayBe(meet) || !sample.IvMayBe(hull) {
		t.Fatalf("of %v: %v, %v: may not be", l, meet, hull)
	}
	for _, n := range probes() {
		all := true
		for _, x := range l {
			all = all && has(x, n)
		}
		if has(meet, n) != all {
			t.Fatalf("Meet(%v): %v: with %v: %v", l, meet, n, !all)
		}
	}
	low, high, some := false, false, false
	for _, x := range l {
		if !iv.Within(meet, x) || !iv.Within(x, hull) { // P8.6
			t.Fatalf("of %v: %v, %v: not around %v", l, meet, hull, x)
		}
		if !x.Empty {
			some = true
			low, high = low || x.Lo == hull.Lo, high || x.Hi == hull.Hi
		}
	}
	if hull.Empty == some || some && !(low && high) {
		t.Fatalf("Hull(%v): %v: not the least", l, hull)
	}
}

func TestMeetAndHullOfMany(t *testing.T) { // P8.3, P8.6
	l := sample.Ivs()
	for _, a := range l {
		for _, b := range l {
			checkSets(t, []api.Iv{a, b})
		}
	}
	r := rand.New(rand.NewSource(1))
	for range 3000 {
		some := make([]api.Iv, r.Intn(9))
		for i := range some {
			some[i] = l[min(r.Intn(len(l)), 1+r.Intn(len(l)-1))]
		}
		checkSets(t, some)
	}
}

// TestSetsOfWhatMayNotBe hands intervals that may not be, and the empty one in their place, to every call of many.
func TestSetsOfWhatMayNotBe(t *testing.T) { // P8.2, P8.3, the chapter's Words
	for _, bad := range sample.IvMayNot() {
		expect(t, "Meet of one", iv.Meet(bad), none())
		expect(t, "Hull of one", iv.Hull(bad), none())
		for _, x := range sample.FewIvs() {
			expect(t, "Meet with one", iv.Meet(x, bad), none())
			expect(t, "Meet with one ahead", iv.Meet(all, bad, x), none())
			expect(t, "Hull with one", iv.Hull(x, bad), x)
			expect(t, "Hull with one ahead", iv.Hull(bad, x, bad), x)
			if !iv.Within(bad, x) || iv.Within(x, bad) != x.Empty {
				t.Errorf("Within of %v and %v: %v, %v", bad, x, iv.Within(bad, x), iv.Within(x, bad))
			}
		}
		if !iv.Within(bad, bad) {
			t.Errorf("Within(%v) of itself", bad)
		}
	}
}
