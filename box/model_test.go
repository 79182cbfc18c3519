package box_test

import (
	"fmt"
	"math/rand"
	"slices"
	"testing"

	"pelorus/api"
	"pelorus/iv"
	"pelorus/num"
	"pelorus/sample"
)

const (
	maxE = 1 << 20
	high = 1 << 63
)

var (
	inf, tiny, huge  = sample.Inf, sample.Tiny, sample.Huge
	power, minus     = sample.Power, sample.Minus
	from, none, less = sample.Span, sample.None, sample.Less
	nought           = api.Num{}
	all              = from(inf(true), inf(false))
)

// span is from one whole number to another one, which is not less.
func span(a, b int) api.Iv { return from(num.Of(a), num.Of(b)) }

// of is a box of these intervals.
func of(l ...api.Iv) []api.Iv { return l }

// at is a point of these numbers.
func at(l ...api.Num) []api.Num { return l }

// with is a box with x in these places in place of what it has there.
func with(b []api.Iv, x api.Iv, places ...int) []api.Iv {
	out := slices.Clone(b)
	for _, i := range places {
		out[i] = x
	}
	return out
}

// nones is the box of these dimensions that is empty in all.
func nones(dims int) []api.Iv {
	var out []api.Iv
	for range dims {
		out = append(out, none())
	}
	return out
}

// places are the first one, one in the midst, and the last one of so many; and all of them.
func places(dims int) [][]int {
	var every []int
	for i := range dims {
		every = append(every, i)
	}
	return [][]int{{0}, {dims / 2}, {dims - 1}, every}
}

// long is a box of many dimensions, no two of whose intervals are the same.
func long(dims int) []api.Iv {
	var out []api.Iv
	for i := range dims {
		out = append(out, span(-i, 2*i))
	}
	return out
}

// fulls are boxes that are not empty: of no dimensions, of one, of several and of many.
func fulls() [][]api.Iv {
	out := [][]api.Iv{
		nil, {}, of(span(0, 2), span(0, 1)), of(span(1, 3), span(2, 3)), of(span(0, 3), span(0, 3), span(0, 3)),
		of(span(-5, -1), all, span(7, 7)), of(from(inf(true), num.Of(-3)), span(-4, 2), from(num.Of(1), inf(false))),
		of(from(huge(true), huge(false)), from(tiny(true), tiny(false)), from(tiny(false), huge(false))),
		of(api.Iv{}, api.Iv{}, api.Iv{}, api.Iv{}), of(all, all), long(16), long(17), long(100),
	}
	for _, x := range sample.Ivs() {
		if !x.Empty {
			out = append(out, of(x))
		}
	}
	few := sample.FewIvs()[1:]
	out = append(out, few)
	for i := range len(few) - 3 {
		out = append(out, few[i:i+2:i+2], few[i:i+4:i+4])
	}
	return out
}

// few are some of these, of each of few dimensions.
func few() [][]api.Iv {
	return [][]api.Iv{
		nil, {}, of(span(0, 2)), of(all), of(span(7, 7)), of(span(0, 2), span(0, 1)), of(span(1, 3), span(2, 3)),
		of(span(-4, 4), from(num.Of(1), inf(false))), of(span(0, 3), span(-1, 3), span(1, 2)), of(span(2, 2), span(0, 2), all),
		of(span(3, 4), span(-9, -1), span(0, 2)), long(16), long(17),
	}
}

// hollows are what becomes of a box with the empty interval in each of its places, and with ones that may not be.
func hollows(b []api.Iv) [][]api.Iv {
	if len(b) == 0 {
		return nil
	}
	var out [][]api.Iv
	for _, l := range places(len(b)) {
		for _, x := range of(none(), span(1, 0), from(inf(false), inf(false)), api.Iv{Empty: true, Hi: num.Of(1)}, from(sample.MayNot()[0], num.Of(9))) {
			out = append(out, with(b, x, l...))
		}
	}
	return out
}

// chance are pairs of boxes of as many dimensions, of a few intervals, so that some of them are the same.
func chance(seed int64, n int) [][2][]api.Iv {
	var out [][2][]api.Iv
	r, l := rand.New(rand.NewSource(seed)), slices.Concat(sample.Ivs()[1:], of(none(), span(0, -1)))
	for range n {
		var a, b []api.Iv
		for range r.Intn(5) {
			a, b = append(a, l[r.Intn(len(l))]), append(b, l[r.Intn(len(l))])
		}
		out = append(out, [2][]api.Iv{a, b})
	}
	return out
}

// The chapter's words, told over package iv.

// isEmpty tells whether an interval of a box is empty, or may not be.
func isEmpty(b []api.Iv) bool {
	for i := range b {
		if b[i].Empty || !sample.IvMayBe(b[i]) {
			return true
		}
	}
	return false
}

// fair is a box, but as many empty intervals, if it is empty.
func fair(b []api.Iv) []api.Iv {
	if isEmpty(b) {
		return nones(len(b))
	}
	return slices.Clone(b)
}

// has tells whether each interval has its number, and there are as many numbers as intervals.
func has(b []api.Iv, p []api.Num) bool {
	is := len(b) == len(p)
	for i := 0; is && i < len(b); i++ {
		is = iv.Has(b[i], p[i])
	}
	return is
}

// within tells whether both have the same dimensions, and a is empty or each of its intervals within b's.
func within(a, b []api.Iv) bool {
	each := len(a) == len(b)
	for i := 0; each && i < len(a); i++ {
		each = iv.Within(a[i], b[i])
	}
	return len(a) == len(b) && (isEmpty(a) || each)
}

// meet is fair of what iv's Meet makes, place by place.
func meet(a, b []api.Iv) []api.Iv {
	if len(a) != len(b) {
		return nil
	}
	var out []api.Iv
	for i := range a {
		out = append(out, iv.Meet(a[i], b[i]))
	}
	return fair(out)
}

// hull is fair of the other one, if one is empty, else of what iv's Hull makes, place by place.
func hull(a, b []api.Iv) []api.Iv {
	if len(a) != len(b) {
		return nil
	}
	if isEmpty(a) {
		return fair(b)
	}
	if isEmpty(b) {
		return fair(a)
	}
	var out []api.Iv
	for i := range a {
		out = append(out, iv.Hull(a[i], b[i]))
	}
	return fair(out)
}

// widest is the first place whose interval's width no other one's is greater than.
func widest(b []api.Iv) int {
	if isEmpty(b) {
		return -1
	}
	var widths []api.Num
	for _, x := range b {
		widths = append(widths, iv.Width(x))
	}
	return slices.IndexFunc(widths, func(n api.Num) bool {
		return !slices.ContainsFunc(widths, func(m api.Num) bool { return less(n, m) })
	})
}

// split is b with the halves of the interval of the place i in its place.
func split(b []api.Iv, i int) (low, up []api.Iv) {
	if i < 0 || i >= len(b) {
		return nil, nil
	}
	below, above := iv.Split(b[i])
	return fair(with(b, below, i)), fair(with(b, above, i))
}

// expect fails the test unless a box is the wanted one, whose intervals may be, and which is empty in all or in none.
// The asked are told in the places of what.
func expect(t *testing.T, what string, got, want []api.Iv, asked ...any) {
	t.Helper()
	hollow := slices.Contains(want, none())
	if slices.ContainsFunc(want, func(x api.Iv) bool { return !sample.IvMayBe(x) || x.Empty != hollow }) {
		t.Fatalf("%s: the wanted %v may not be", fmt.Sprintf(what, asked...), want)
	}
	if !slices.Equal(got, want) {
		t.Errorf("%s: got %v, want %v", fmt.Sprintf(what, asked...), got, want)
	}
}

// expectIs fails the test unless it is as wanted.
func expectIs(t *testing.T, what string, got, want bool, asked ...any) {
	t.Helper()
	if got != want {
		t.Errorf("%s: got %v, want %v", fmt.Sprintf(what, asked...), got, want)
	}
}
