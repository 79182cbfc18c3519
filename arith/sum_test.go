package arith_test

import (
	"math/rand"
	"slices"
	"testing"

	"pelorus/api"
	"pelorus/arith"
	"pelorus/num"
	"pelorus/sample"
)

// expectSum fails the test unless lo and hi are the sum of numbers to both sides, and that of their opposites is the
// opposite.
func expectSum(t *testing.T, what string, lo, hi api.Num, l ...api.Num) {
	t.Helper()
	expect(t, what+", not up", arith.Sum(false, l...), lo)
	expect(t, what+", up", arith.Sum(true, l...), hi)
	var other []api.Num
	for _, n := range l {
		other = append(other, minus(n))
	}
	expect(t, what+" of the opposites, not up", arith.Sum(false, other...), minus(hi))
	expect(t, what+" of the opposites, up", arith.Sum(true, other...), minus(lo))
}

func TestSumOfFew(t *testing.T) { // P6.3
	none := api.Num{}
	expectSum(t, "none", none, none)
	expectSum(t, "an empty list", none, none, []api.Num{}...)
	for _, n := range sample.Row() {
		expectSum(t, "one", n, n, n)
	}
	for _, n := range sample.MayNot() {
		for _, up := range []bool{false, true} {
			expect(t, "Sum of one that may not be", arith.Sum(up, n), none)
			expect(t, "Sum with one that may not be", arith.Sum(up, n, num.Of(3)), num.Of(3))
		}
	}
	for _, a := range sample.Few() {
		for _, b := range sample.Few() {
			expectSum(t, "two", arith.Add(a, b, false), arith.Add(a, b, true), a, b)
		}
	}
}

// TestSumInOrder has sums that are rounded on the way, so that the order counts.
func TestSumInOrder(t *testing.T) { // P6.3
	one, less, bit := num.Of(1), num.Of(-1), power(-64)
	expectSum(t, "three", num.Of(-2), num.Of(-2), one, num.Of(2), num.Of(-5))
	expectSum(t, "the bit in between", api.Num{}, power(-63), one, bit, less)
	expectSum(t, "the bit behind", bit, bit, one, less, bit)
	expectSum(t, "the bit ahead", api.Num{}, power(-63), bit, one, less)
	expectSum(t, "1 between bits", one, pos(high+2, -63), bit, one, bit)
	expectSum(t, "two bits ahead of 1", pos(high+1, -63), pos(high+1, -63), bit, bit, one)
	expectSum(t, "two bits behind 1", one, pos(high+2, -63), one, bit, bit)
	expectSum(t, "beyond the Huge and back", pos(full, maxE-1), inf(false), pos(full, maxE-1), huge(false), minus(huge(false)), pos(full, maxE-1))
	expectSum(t, "back ahead of going beyond", pos(full, maxE-1), pos(full, maxE-1), huge(false), minus(huge(false)), pos(full, maxE-1))
}

func TestSumWithInfinite(t *testing.T) { // P6.3
	above, below, three := inf(false), inf(true), num.Of(3)
	expectSum(t, "infinite ahead", above, above, above, three, minus(huge(false)))
	expectSum(t, "infinite in between", below, below, three, below, huge(false))
	expectSum(t, "infinite behind", above, above, minus(three), three, above)
	expectSum(t, "of one sign", above, above, above, above, three, above)
	expectSum(t, "of two signs", below, above, above, below)
	expectSum(t, "of two signs, and more", below, above, three, below, three, above, three, below)
	expectSum(t, "of two signs, and one of them again", below, above, below, above, above)
	expectSum(t, "made on the way", below, above, huge(false), huge(false), below)
}

// TestSumOfMany goes one behind the other by Add, and beside it by the library's numbers.
func TestSumOfMany(t *testing.T) { // P6.3
	r := rand.New(rand.NewSource(6))
	for range 2000 {
		l := make([]api.Num, 1+r.Intn(12))
		for i := range l {
			l[i] = fin(r.Intn(2) == 0, sample.Word(r), r.Intn(160)-80)
		}
		for _, up := range []bool{false, true} {
			want, same := api.Num{}, l[0]
			for i, n := range l {
				want = rounded(plus(exactly(want), exactly(n)), up)
				if i > 0 {
					same = arith.Add(same, n, up)
				}
			}
			got := arith.Sum(up, l...)
			expect(t, "Sum of many", got, want)
			expect(t, "Sum of many as Add", got, same)
		}
	}
}

// TestSumBetween has the exact sum of many between both.
func TestSumBetween(t *testing.T) { // P6.4
	r := rand.New(rand.NewSource(7))
	for range 2000 {
		l, v := make([]api.Num, r.Intn(12)), exactly(api.Num{})
		for i := range l {
			l[i] = fin(r.Intn(2) == 0, sample.Word(r), r.Intn(160)-80)
			v = plus(v, exactly(l[i]))
		}
		lo, hi := arith.Sum(false, l...), arith.Sum(true, l...)
		if beside(lo, v) > 0 || beside(hi, v) < 0 || lo == hi && beside(lo, v) != 0 {
			t.Fatalf("Sum(%v): %v, %v: not on both sides", l, lo, hi)
		}
	}
}

func TestSumLeavesItsList(t *testing.T) { // R3, R5
	l := append(sample.Few(), sample.MayNot()...)
	was := slices.Clone(l)
	for range 2 {
		expect(t, "Sum of all, up", arith.Sum(true, l...), inf(false))
		expect(t, "Sum of all, not up", arith.Sum(false, l...), inf(true))
	}
	if !slices.Equal(l, was) {
		t.Error("Sum changed what was handed in")
	}
}
