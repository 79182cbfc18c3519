package pi_test

import (
	"math/big"
	"math/rand"
	"slices"
	"testing"

	"pelorus/api"
	"pelorus/num"
	"pelorus/pi"
	"pelorus/sample"
)

func TestScale(t *testing.T) { // P11.1
	if got := pi.Scale(); got.Neg || !slices.Equal(got.M, []uint32{0, 0, 0, 0, 0, 0, 1}) {
		t.Errorf("%v", got)
	}
	expect(t, "Scale", pi.Scale(), bit(scale, 0))
}

// expectFix fails the test unless a number's fixed one is the wanted one.
func expectFix(t *testing.T, what string, n api.Num, want *big.Int) {
	t.Helper()
	got, is := pi.Fix(n)
	if !is {
		t.Fatalf("Fix of %s: none", what)
	}
	expect(t, "Fix of "+what, got, want)
}

// expectNoFix fails the test unless a number has no fixed one.
func expectNoFix(t *testing.T, what string, n api.Num) {
	t.Helper()
	if got, is := pi.Fix(n); is || got.Neg || len(got.M) != 0 {
		t.Errorf("Fix of %s: %v, %v", what, got, is)
	}
}

// TestFixAtTheEdges has fixed numbers written out, of numbers above nought and of their opposites.
func TestFixAtTheEdges(t *testing.T) { // P11.1
	one := big.NewInt(1)
	for _, c := range []struct {
		name         string
		n            api.Num
		above, below *big.Int
	}{
		{"1", num.Of(1), bit(scale, 0), opposite(bit(scale, 0))},
		{"3", num.Of(3), times(big.NewInt(3), scale), times(big.NewInt(-3), scale)},
		{"10^9", num.Of(1e9), times(big.NewInt(1e9), scale), times(big.NewInt(-1e9), scale)},
		{"a half", power(-1), bit(191, 0), opposite(bit(191, 0))},
		{"three halves", pos(3<<62, -63), times(big.NewInt(3), 191), times(big.NewInt(-3), 191)},
		{"64 bits behind the point", pos(full, -64), times(bit(64, -1), 128), times(opposite(bit(64, -1)), 128)},
		{"two last parts", power(-191), big.NewInt(2), big.NewInt(-2)},
		{"the last part", power(-192), one, big.NewInt(-1)},
		{"three halves of it", pos(3<<62, -255), one, big.NewInt(-2)},
		{"five quarters of it", pos(5<<61, -255), one, big.NewInt(-2)},
		{"seven quarters of it", pos(7<<61, -255), one, big.NewInt(-2)},
		{"next above it", pos(high+1, -255), one, big.NewInt(-2)},
		{"next below it", pos(full, -256), new(big.Int), big.NewInt(-1)},
		{"next below two of it", pos(full, -255), one, big.NewInt(-2)},
		{"64 bits down to the last part", pos(full, -192), bit(64, -1), opposite(bit(64, -1))},
		{"64 bits, one of them behind it", pos(full, -193), bit(63, -1), opposite(bit(63, 0))},
		{"64 bits, the last one, behind it, nought", pos(full-1, -193), bit(63, -1), opposite(bit(63, -1))},
		{"64 bits, half of them behind it", pos(1<<32|high, -224), bit(31, 1), opposite(bit(31, 1))},
		{"64 bits, half of them behind it, and one more", pos(1<<32|high|1, -224), bit(31, 1), opposite(bit(31, 2))},
		{"a half of the last part", power(-193), new(big.Int), big.NewInt(-1)},
		{"far finer", power(-400), new(big.Int), big.NewInt(-1)},
		{"far finer, all bits", pos(full, -400), new(big.Int), big.NewInt(-1)},
		{"far finer than a million bits", pos(3<<62, minE+5), new(big.Int), big.NewInt(-1)},
		{"the Tiny", tiny(false), new(big.Int), big.NewInt(-1)},
		{"the greatest one below 2^30", pos(full, -34), times(bit(64, -1), 158), times(opposite(bit(64, -1)), 158)},
		{"2^30 less 1", num.Of(1<<30 - 1), times(bit(30, -1), scale), times(opposite(bit(30, -1)), scale)},
		{"2^29", power(29), bit(221, 0), opposite(bit(221, 0))},
	} {
		expectFix(t, c.name, c.n, c.above)
		expectFix(t, "the opposite of "+c.name, minus(c.n), c.below)
	}
	expectFix(t, "nought", api.Num{}, new(big.Int))
}

func TestFixOfWhatIsTooFar(t *testing.T) { // P11.1, R4
	for _, c := range []struct {
		name string
		n    api.Num
	}{
		{"2^30", power(30)}, {"the next one above it", pos(high+1, -33)}, {"2^30 and 1", num.Of(1<<30 + 1)},
		{"2^31 less 1", num.Of(1<<31 - 1)}, {"2^31", power(31)}, {"2^62", power(62)}, {"2^192", power(192)},
		{"with no more bits than the greatest that is near", pos(full, -33)},
		{"the one ahead of the Huge", pos(full-1, maxE)}, {"the Huge", huge(false)}, {"the infinite one", inf(false)},
	} {
		expectNoFix(t, c.name, c.n)
		expectNoFix(t, "the opposite of "+c.name, minus(c.n))
	}
	// The neighbours of 2^30 and of its opposite, on both sides.
	for _, neg := range []bool{false, true} {
		at := fin(neg, high, -33)
		expectNoFix(t, "the neighbour farther from nought", num.Next(at, !neg))
		if _, is := pi.Fix(num.Next(at, neg)); !is {
			t.Errorf("the neighbour of %v nearer to nought has none", at)
		}
	}
}

// checkFix holds a number's fixed one against the chapter's words: the number may be.
func checkFix(t *testing.T, n api.Num) {
	t.Helper()
	// As M has its highest bit, the number is 2^30 or more as soon as E is this.
	if n.Kind == api.Inf || n.Kind == api.Finite && n.E >= 30-63 {
		expectNoFix(t, "one too far", n)
		return
	}
	m := new(big.Int).SetUint64(n.M)
	if n.Neg {
		m.Neg(m)
	}
	expectFix(t, "one", n, times(m, n.E+scale))
	if t.Failed() {
		t.Fatalf("at Fix(%v)", n)
	}
}

func TestFixOfMany(t *testing.T) { // P11.1
	for _, n := range sample.Row() {
		checkFix(t, n)
	}
	r := rand.New(rand.NewSource(11))
	for e := -330; e <= 70; e++ {
		for _, m := range append(sample.Words(), sample.Word(r), sample.Word(r)) {
			checkFix(t, pos(m, e))
			checkFix(t, fin(true, m, e))
		}
	}
	for range 2000 {
		checkFix(t, sample.Num(r))
	}
}

// TestFixOfWhatMayNotBe has numbers that are taken for nought, also those that look infinite or far away.
func TestFixOfWhatMayNotBe(t *testing.T) { // P11.1, the Words of chapter 5
	for _, bad := range sample.MayNot() {
		got, is := pi.Fix(bad)
		if !is || got.Neg || len(got.M) != 0 {
			t.Errorf("Fix(%v): %v, %v", bad, got, is)
		}
	}
}
