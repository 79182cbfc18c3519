package ivop_test

import (
	"fmt"
	"math/big"
	"math/rand"
	"slices"
	"testing"

	"pelorus/api"
	"pelorus/arith"
	"pelorus/ivop"
	"pelorus/num"
	"pelorus/sample"
)

func TestAdd(t *testing.T) { // P9.1
	bit := at(power(-70))
	for _, c := range []struct {
		l    []api.Iv
		want api.Iv
	}{
		{nil, span(0, 0)}, {[]api.Iv{}, span(0, 0)}, {[]api.Iv{span(-3, 5)}, span(-3, 5)},
		{[]api.Iv{none()}, none()}, {[]api.Iv{all}, all}, {[]api.Iv{{}}, api.Iv{}},
		{[]api.Iv{span(0, 1), span(2, 3)}, span(2, 4)}, {[]api.Iv{span(-5, -2), span(1, 4)}, span(-4, 2)},
		{[]api.Iv{span(0, 1), span(2, 3), span(-1, 0)}, span(1, 4)}, {[]api.Iv{span(-1, 1), span(-1, 1)}, span(-2, 2)},
		{[]api.Iv{span(7, 7), {}}, span(7, 7)}, {[]api.Iv{{}, {}, {}}, api.Iv{}},

		// Lo is rounded to below, Hi up, whatever the sign.
		{[]api.Iv{at(one), bit}, from(one, next)}, {[]api.Iv{at(minus(one)), bit}, from(minus(one), minus(below))},
		{[]api.Iv{at(one), opposite(bit)}, from(below, one)}, {[]api.Iv{span(0, 1), bit}, from(power(-70), next)},
		{[]api.Iv{at(minus(one)), opposite(bit)}, from(minus(next), minus(one))},
		{[]api.Iv{span(-1, 1), from(power(-70), power(-63))}, from(minus(one), next)},

		// One behind the other: another order is rounded elsewhere.
		{[]api.Iv{at(one), bit, at(minus(one))}, from(nought, power(-63))}, {[]api.Iv{at(one), at(minus(one)), bit}, bit},
		{[]api.Iv{bit, at(minus(one)), at(one)}, from(nought, power(-64))}, {[]api.Iv{at(minus(one)), at(one), bit}, bit},

		// Beyond the Huge, and at the Tiny.
		{[]api.Iv{at(huge(false)), at(huge(false))}, on(huge(false))}, {[]api.Iv{at(huge(true)), at(huge(true))}, upTo(huge(true))},
		{[]api.Iv{at(huge(false)), at(tiny(false))}, on(huge(false))}, {[]api.Iv{at(huge(true)), at(tiny(true))}, upTo(huge(true))},
		{[]api.Iv{at(huge(true)), at(tiny(false))}, from(huge(true), minus(pos(full-1, maxE)))},
		{[]api.Iv{at(huge(false)), at(huge(false)), at(huge(true))}, on(nought)},
		{[]api.Iv{at(huge(false)), at(huge(true)), at(huge(false))}, at(huge(false))},
		{[]api.Iv{from(huge(true), huge(false)), span(0, 1)}, on(huge(true))},
		{[]api.Iv{at(tiny(false)), at(tiny(false))}, at(pos(high, minE+1))}, {[]api.Iv{at(tiny(false)), at(tiny(true))}, api.Iv{}},

		// Infinite ends.
		{[]api.Iv{on(num.Of(5)), span(1, 2)}, on(num.Of(6))}, {[]api.Iv{upTo(num.Of(-1)), span(1, 2)}, upTo(one)},
		{[]api.Iv{on(num.Of(5)), upTo(num.Of(3))}, all}, {[]api.Iv{all, span(1, 1)}, all}, {[]api.Iv{all, all}, all},
		{[]api.Iv{on(num.Of(5)), at(huge(false))}, on(huge(false))}, {[]api.Iv{upTo(huge(false)), at(tiny(false))}, all},
		{[]api.Iv{on(one), on(one), on(one)}, on(num.Of(3))},
	} {
		expect(t, fmt.Sprint("Add of ", c.l), ivop.Add(c.l...), c.want)
		var other []api.Iv
		for _, x := range c.l {
			other = append(other, opposite(x))
		}
		expect(t, fmt.Sprint("Add of the opposites of ", c.l), ivop.Add(other...), opposite(c.want))
	}
}

// TestAddOfTwo has the promise to the letter, and that the order of two is all one.
func TestAddOfTwo(t *testing.T) { // P9.1
	for _, a := range sample.Ivs() {
		expect(t, "Add of one", ivop.Add(a), a)
		for _, b := range sample.Ivs() {
			want := none()
			if !a.Empty && !b.Empty {
				want = from(arith.Add(a.Lo, b.Lo, false), arith.Add(a.Hi, b.Hi, true))
			}
			expect(t, fmt.Sprintf("Add of %v and %v", a, b), ivop.Add(a, b), want)
			expect(t, fmt.Sprintf("Add of %v and %v", b, a), ivop.Add(b, a), want)
		}
	}
}

// TestAddOfMany holds that a sum of many is made one behind the other, and that it has the sum of a number of each.
func TestAddOfMany(t *testing.T) { // P9.1, P9.5
	many := slices.Repeat([]api.Iv{at(power(-70))}, 1000)
	expect(t, "many", ivop.Add(slices.Repeat([]api.Iv{span(-1, 2)}, 1000)...), span(-1000, 2000))
	expect(t, "many rounded", ivop.Add(append([]api.Iv{at(one)}, many...)...), from(one, pos(high+1000, -63)))
	expect(t, "many beyond", ivop.Add(slices.Repeat([]api.Iv{at(huge(true))}, 1000)...), upTo(huge(true)))
	r := rand.New(rand.NewSource(3))
	for range 300 {
		var l []api.Iv
		want, lo, hi := api.Iv{}, new(big.Float), new(big.Float)
		for range r.Intn(7) {
			x := anyIv(r)
			l = append(l, x)
			want = ivop.Add(want, x)
			lo, hi = exact().Add(lo, float(x.Lo)), exact().Add(hi, float(x.Hi))
		}
		got := ivop.Add(l...)
		expect(t, fmt.Sprint("Add of ", l), got, want)
		if float(got.Lo).Cmp(lo) > 0 || float(got.Hi).Cmp(hi) < 0 {
			t.Errorf("Add of %v: %v: less than the sums", l, got)
		}
	}
}

// TestAddOfWhatMayNotBe has one that may not be, and the empty one, in each place of a list.
func TestAddOfWhatMayNotBe(t *testing.T) { // P9.1, the chapter's Words
	for _, bad := range append(sample.IvMayNot(), none()) {
		expect(t, "Add of one", ivop.Add(bad), none())
		expect(t, "Add of it twice", ivop.Add(bad, bad), none())
		for i := range 4 {
			expect(t, "Add of many", ivop.Add(slices.Insert([]api.Iv{span(0, 1), all, {}}, i, bad)...), none())
		}
	}
}

func TestSub(t *testing.T) { // P9.1
	bit := at(power(-70))
	for _, c := range []struct{ a, b, want api.Iv }{
		{span(0, 1), span(2, 3), span(-3, -1)}, {span(2, 3), span(0, 1), span(1, 3)}, {span(0, 1), span(0, 1), span(-1, 1)},
		{span(5, 5), span(5, 5), api.Iv{}}, {span(-2, 3), api.Iv{}, span(-2, 3)}, {api.Iv{}, span(-2, 3), span(-3, 2)},
		{at(one), bit, from(below, one)}, {at(minus(one)), bit, from(minus(next), minus(one))},
		{bit, at(one), from(minus(one), minus(below))}, {at(one), opposite(bit), from(one, next)},
		{at(huge(false)), at(huge(true)), on(huge(false))}, {at(huge(true)), at(tiny(false)), upTo(huge(true))},
		{on(one), on(one), all}, {on(one), upTo(one), on(nought)}, {upTo(one), on(one), upTo(nought)},
		{span(1, 2), on(num.Of(5)), upTo(num.Of(-3))}, {span(1, 2), upTo(num.Of(5)), on(num.Of(-4))}, {all, all, all},
		{none(), span(0, 1), none()}, {span(0, 1), none(), none()},
	} {
		expect(t, fmt.Sprintf("Sub of %v and %v", c.a, c.b), ivop.Sub(c.a, c.b), c.want)
	}
}

func TestSubAsAddAndNeg(t *testing.T) { // P9.1
	l := append(sample.Ivs(), sample.IvMayNot()[:20]...)
	for _, a := range l {
		for _, b := range l {
			expect(t, fmt.Sprintf("Sub of %v and %v", a, b), ivop.Sub(a, b), ivop.Add(a, ivop.Neg(b)))
		}
	}
}

func TestNeg(t *testing.T) { // P9.1
	for _, c := range []struct{ a, want api.Iv }{
		{span(1, 2), span(-2, -1)}, {span(-2, -1), span(1, 2)}, {span(-1, 2), span(-2, 1)}, {span(0, 3), span(-3, 0)},
		{span(-3, 0), span(0, 3)}, {api.Iv{}, api.Iv{}}, {none(), none()}, {all, all}, {on(one), upTo(minus(one))},
		{upTo(one), on(minus(one))}, {on(nought), upTo(nought)}, {from(tiny(false), huge(false)), from(huge(true), tiny(true))},
		{from(tiny(true), next), from(minus(next), tiny(false))}, {at(huge(false)), at(huge(true))},
	} {
		expect(t, fmt.Sprint("Neg of ", c.a), ivop.Neg(c.a), c.want)
	}
	for _, a := range append(sample.Ivs(), sample.FewIvs()...) {
		expect(t, fmt.Sprint("Neg of ", a), ivop.Neg(a), opposite(a))
		expect(t, fmt.Sprint("Neg, twice, of ", a), ivop.Neg(ivop.Neg(a)), a)
	}
	for _, bad := range sample.IvMayNot() {
		expect(t, "Neg, twice", ivop.Neg(ivop.Neg(bad)), none())
	}
}
