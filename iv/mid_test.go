package iv_test

import (
	"fmt"
	"math/rand"
	"testing"

	"pelorus/api"
	"pelorus/arith"
	"pelorus/iv"
	"pelorus/num"
	"pelorus/sample"
)

// middles are intervals with their middle, and how wide they are.
func middles() []struct {
	x          api.Iv
	mid, width api.Num
} {
	one, next, below := num.Of(1), pos(high+1, -63), pos(full, -64) // 1 and its neighbours
	far, top := power(100), pos(high, maxE)                         // 2^maxE is too far from nought to be twice in a sum
	return []struct {
		x          api.Iv
		mid, width api.Num
	}{
		{none(), nought, nought}, {all, nought, inf(false)}, {api.Iv{}, nought, nought},
		{from(num.Of(5), inf(false)), num.Of(5), inf(false)}, {from(num.Of(-5), inf(false)), num.Of(-5), inf(false)},
		{from(inf(true), num.Of(5)), num.Of(5), inf(false)}, {from(inf(true), num.Of(-5)), num.Of(-5), inf(false)},
		{from(nought, inf(false)), nought, inf(false)}, {from(inf(true), nought), nought, inf(false)},
		{from(huge(false), inf(false)), huge(false), inf(false)},
		{from(inf(true), huge(false)), huge(false), inf(false)},
		{from(tiny(true), inf(false)), tiny(true), inf(false)}, {from(inf(true), huge(true)), huge(true), inf(false)},

		{span(0, 1), power(-1), one}, {span(-1, 0), minus(power(-1)), one}, {span(-1, 3), one, num.Of(4)},
		{span(-3, 1), num.Of(-1), num.Of(4)},
		{span(-2, 2), nought, num.Of(4)}, {span(3, 8), pos(11<<60, -61), num.Of(5)},
		{span(-8, -3), minus(pos(11<<60, -61)), num.Of(5)},

		// So near each other that there is no number between.
		{from(one, next), one, power(-63)}, {from(below, one), below, power(-64)},
		{from(minus(next), minus(one)), minus(next), power(-63)},
		{from(minus(one), minus(below)), minus(one), power(-64)}, {from(one, pos(high+2, -63)), next, power(-62)},
		{from(one, pos(high+3, -63)), next, pos(3<<62, -125)},
		{from(below, next), one, pos(3<<62, -126)}, {from(minus(next), minus(below)), minus(next), pos(3<<62, -126)},
		{from(nought, tiny(false)), nought, tiny(false)}, {from(tiny(true), nought), tiny(true), tiny(false)},
		{from(tiny(true), tiny(false)), nought, pos(high, minE+1)},
		{from(tiny(false), pos(high+1, minE)), tiny(false), tiny(false)},
		{from(tiny(false), pos(high+2, minE)), pos(high+1, minE), tiny(false)},
		{from(minus(pos(high+1, minE)), tiny(false)), tiny(true), pos(high+1, minE+1)},
		{from(tiny(true), pos(high+1, minE)), nought, pos(high+1, minE+1)},
		{from(nought, pos(high, minE+1)), tiny(false), pos(high, minE+1)},
		{from(nought, pos(full, minE)), nought, pos(full, minE)},

		// So far from each other that one end is rounded away.
		{from(one, far), power(99), far}, {from(minus(one), far), pos(full, 35), pos(high+1, 37)},
		{from(minus(far), one), minus(power(99)), pos(high+1, 37)},
		{from(minus(far), minus(one)), minus(pos(high+1, 36)), far}, {from(tiny(true), one), pos(full, -65), next},
		{from(tiny(false), one), power(-1), one},
		{from(minus(one), tiny(true)), minus(pos(high+1, -64)), one},
		{from(minus(one), tiny(false)), minus(power(-1)), next},

		// At the Huge, and beyond it.
		{from(huge(true), huge(false)), nought, inf(false)},
		{from(nought, huge(false)), pos(full, maxE-1), huge(false)},
		{from(huge(true), nought), minus(pos(full, maxE-1)), huge(false)},
		{from(tiny(false), huge(false)), pos(full, maxE-1), huge(false)},
		{from(tiny(true), huge(false)), pos(full-1, maxE-1), inf(false)},
		{from(huge(true), tiny(false)), minus(pos(full, maxE-1)), inf(false)},
		{from(huge(true), tiny(true)), huge(true), huge(false)}, {from(top, huge(false)), top, pos(full-1, maxE-1)},
		{from(minus(huge(false)), minus(top)), huge(true), pos(full-1, maxE-1)},
		{from(pos(high, maxE-1), huge(false)), pos(full, maxE-1), pos(full-high>>1, maxE)},
		{from(pos(full, maxE-1), top), pos(full, maxE-1), pos(high, maxE-64)}, {from(one, top), pos(high, maxE-1), top},
		{from(minus(top), minus(one)), minus(pos(high+1, maxE-1)), top},
		{from(minus(top), top), nought, inf(false)},
		{from(minus(pos(high, maxE-1)), pos(high, maxE-1)), nought, pos(high, maxE)},
	}
}

func TestMidAndWidth(t *testing.T) { // P8.4
	for _, c := range middles() {
		expectNum(t, fmt.Sprint("Mid of ", c.x), iv.Mid(c.x), c.mid)
		expectNum(t, fmt.Sprint("Width of ", c.x), iv.Width(c.x), c.width)
		expectNum(t, fmt.Sprint("Width of the opposite of ", c.x), iv.Width(opposite(c.x)), c.width)
		checkHalves(t, c.x)
	}
}

func TestMidAndWidthOfPoints(t *testing.T) { // P8.4
	for _, n := range sample.Row() {
		if n.Kind == api.Inf {
			continue
		}
		expectNum(t, "Mid", iv.Mid(from(n, n)), n)
		expectNum(t, "Width", iv.Width(from(n, n)), nought)
		checkHalves(t, from(n, n))
	}
}

// checkHalves has the promises to the letter, and what follows.
func checkHalves(t *testing.T, x api.Iv) { // P8.4, P8.5, P8.6
	t.Helper()
	mid, width := iv.Mid(x), iv.Width(x)
	low, high := iv.Split(x)
	if !sample.MayBe(mid) || !sample.MayBe(width) || num.Sign(width) < 0 {
		t.Fatalf("of %v: middle %v, width %v", x, mid, width)
	}
	if x.Empty {
		expect(t, "Split of none", low, none())
		expect(t, "Split of none", high, none())
		return
	}
	if x.Lo.Kind != api.Inf && x.Hi.Kind != api.Inf {
		half := arith.Half(arith.Sum(false, x.Lo, x.Hi), false)
		if less(half, x.Lo) {
			half = x.Lo
		}
		if less(x.Hi, half) {
			half = x.Hi
		}
		expectNum(t, "Mid as Half of Sum", mid, half)
		expectNum(t, "Width as Sub", width, arith.Sub(x.Hi, x.Lo, true))
	}
	if mid.Kind == api.Inf || !has(x, mid) {
		t.Fatalf("Mid of %v: %v: is not in it", x, mid)
	}
	expect(t, fmt.Sprintf("Split of %v, below", x), low, from(x.Lo, mid))
	expect(t, fmt.Sprintf("Split of %v, above", x), high, from(mid, x.Hi))
	expect(t, fmt.Sprint("both halves of ", x), iv.Hull(low, high), x)
	expect(t, fmt.Sprintf("what both halves of %v have", x), iv.Meet(low, high), from(mid, mid))
}

func TestHalvesOfMany(t *testing.T) { // P8.4, P8.5, P8.6
	for _, x := range append(sample.Ivs(), sample.FewIvs()...) {
		checkHalves(t, x)
	}
	r := rand.New(rand.NewSource(2))
	for range 3000 {
		a, b := sample.Num(r), sample.Num(r)
		if r.Intn(2) == 0 {
			b = num.Next(num.Next(a, r.Intn(2) == 0), true)
		}
		if less(b, a) {
			a, b = b, a
		}
		checkHalves(t, from(a, b))
	}
}

func TestSplit(t *testing.T) { // P8.5
	for _, c := range []struct{ x, low, high api.Iv }{
		{none(), none(), none()}, {all, from(inf(true), nought), from(nought, inf(false))},
		{span(3, 3), span(3, 3), span(3, 3)}, {api.Iv{}, api.Iv{}, api.Iv{}},
		{span(0, 2), span(0, 1), span(1, 2)}, {span(-2, 0), span(-2, -1), span(-1, 0)},
		{span(-1, 3), span(-1, 1), span(1, 3)},
		{from(num.Of(5), inf(false)), span(5, 5), from(num.Of(5), inf(false))},
		{from(inf(true), num.Of(5)), from(inf(true), num.Of(5)), span(5, 5)},
		{from(num.Of(1), pos(high+1, -63)), span(1, 1), from(num.Of(1), pos(high+1, -63))},
		{from(minus(pos(high+1, -63)), num.Of(-1)), from(minus(pos(high+1, -63)), minus(pos(high+1, -63))), from(minus(pos(high+1, -63)), num.Of(-1))},
		{from(huge(true), huge(false)), from(huge(true), nought), from(nought, huge(false))},
		{from(pos(high, maxE), huge(false)), from(pos(high, maxE), pos(high, maxE)), from(pos(high, maxE), huge(false))},
		{from(huge(true), minus(pos(high, maxE))), from(huge(true), huge(true)), from(huge(true), minus(pos(high, maxE)))},
	} {
		low, high := iv.Split(c.x)
		expect(t, "Split, below", low, c.low)
		expect(t, "Split, above", high, c.high)
	}
}

func TestInflate(t *testing.T) { // P8.5
	one, next := num.Of(1), pos(high+1, -63)
	for _, c := range []struct {
		x    api.Iv
		by   api.Num
		want api.Iv
	}{
		{span(0, 1), num.Of(2), span(-2, 3)}, {span(0, 1), nought, span(0, 1)}, {span(0, 1), num.Of(-2), span(0, 1)},
		{span(0, 1), tiny(true), span(0, 1)},
		{span(0, 1), tiny(false), from(tiny(true), next)}, {span(1, 1), tiny(false), from(pos(full, -64), next)},
		{span(-1, -1), tiny(false), from(minus(next), minus(pos(full, -64)))},
		{span(1, 2), one, span(0, 3)}, {span(-5, -2), num.Of(3), span(-8, 1)}, {api.Iv{}, one, span(-1, 1)},
		{api.Iv{}, huge(false), from(huge(true), huge(false))},
		{span(0, 1), inf(false), all}, {span(0, 1), inf(true), span(0, 1)}, {all, num.Of(3), all},
		{all, inf(false), all}, {all, inf(true), all}, {all, num.Of(-1), all},
		{from(num.Of(5), inf(false)), one, from(num.Of(4), inf(false))},
		{from(inf(true), num.Of(5)), one, from(inf(true), num.Of(6))},
		{from(num.Of(5), inf(false)), inf(false), all},
		{from(inf(true), num.Of(5)), huge(false), from(inf(true), inf(false))},
		{from(num.Of(5), inf(false)), huge(false), from(minus(pos(full, maxE)), inf(false))},
		{from(nought, inf(false)), huge(false), from(huge(true), inf(false))},
		{from(huge(true), huge(false)), tiny(false), all}, {from(huge(true), one), tiny(false), from(inf(true), next)},
		{span(1, 1), huge(false), from(huge(true), inf(false))},
		{from(huge(false), huge(false)), huge(false), from(nought, inf(false))},
		{from(huge(true), huge(true)), huge(false), from(inf(true), nought)},
		{from(pos(high, maxE), pos(high, maxE)), pos(high, maxE), from(nought, inf(false))},
		{from(one, power(100)), one, from(nought, pos(high+1, 37))},
	} {
		expect(t, fmt.Sprint("Inflate of ", c.x), iv.Inflate(c.x, c.by), c.want)
	}
}

// TestInflateOfAll has the promise to the letter: each interval, by each number.
func TestInflateOfAll(t *testing.T) { // P8.5, P8.6
	for _, x := range append(sample.Ivs(), sample.FewIvs()...) {
		for _, by := range append(sample.Row(), sample.MayNot()...) {
			want := x
			switch {
			case x.Empty || sample.MayBe(by) && by.Neg:
			case !sample.MayBe(by):
				// It is taken for nought, and the same is answered.
			default:
				want = from(arith.Sub(x.Lo, by, false), arith.Add(x.Hi, by, true))
			}
			got := iv.Inflate(x, by)
			expect(t, "Inflate as Sub and Add", got, want)
			if !iv.Within(x, got) {
				t.Errorf("Inflate(%v, %v): %v: less than it was", x, by, got)
			}
		}
	}
}
