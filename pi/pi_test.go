package pi_test

import (
	"math/big"
	"testing"

	"pelorus/api"
	"pelorus/num"
	"pelorus/pi"
	"pelorus/whole"
)

// bounds are both as numbers of the library's.
func bounds(t *testing.T) (*big.Int, *big.Int) {
	t.Helper()
	lo, hi := pi.Bounds()
	return bigOf(t, lo), bigOf(t, hi)
}

func TestBoundsAreOfInverse(t *testing.T) { // P11.3
	made := func(a, b api.Whole) *big.Int {
		out := new(big.Int).Mul(big.NewInt(16), bigOf(t, a))
		return out.Sub(out, new(big.Int).Mul(big.NewInt(4), bigOf(t, b)))
	}
	fifthLo, fifthHi := pi.Inverse(5)
	otherLo, otherHi := pi.Inverse(239)
	lo, hi := pi.Bounds()
	expect(t, "lower", lo, made(fifthLo, otherHi))
	expect(t, "upper", hi, made(fifthHi, otherLo))
}

// TestBoundsWrittenOut has both as they were worked out by another program.
func TestBoundsWrittenOut(t *testing.T) { // P11.3
	lo, hi := pi.Bounds()
	expect(t, "lower", lo, hex("3243f6a8885a308d313198a2e03707344a4093822299f2f2c"))
	expect(t, "upper", hi, hex("3243f6a8885a308d313198a2e03707344a4093822299f34b4"))
}

// TestBoundsAreAroundPi has more of pi's known digits than fixed numbers tell.
func TestBoundsAreAroundPi(t *testing.T) { // P11.5
	const more = 128
	least, most := aroundPi(scale + more)
	lo, hi := bounds(t)
	if times(lo, more).Cmp(least) >= 0 || times(hi, more).Cmp(most) <= 0 {
		t.Errorf("from %x to %x, not around %x", lo, hi, least)
	}
	if apart := new(big.Int).Sub(hi, lo); apart.BitLen() > 11 {
		t.Errorf("%x apart", apart)
	}
}

// TestPi has the chapter's example.
func TestPi(t *testing.T) { // P11.4, P11.5
	got := pi.Pi()
	expectIv(t, "Pi", got, span(pos(0xc90fdaa22168c234, -62), pos(0xc90fdaa22168c235, -62)))
	if num.Next(got.Lo, true) != got.Hi {
		t.Errorf("%v: the ends are no neighbours", got)
	}
	expectIv(t, "Part of Bounds", pi.Part(pi.Bounds()), got)
}

// TestPiIsWithin has the exact ends, of which Fix cuts nothing, around both bounds and around the known digits.
func TestPiIsWithin(t *testing.T) { // P11.5
	got := pi.Pi()
	low, is := pi.Fix(got.Lo)
	high, has := pi.Fix(got.Hi)
	lo, hi := pi.Bounds()
	if !is || !has || whole.Cmp(low, lo) > 0 || whole.Cmp(high, hi) < 0 {
		t.Errorf("%v: not around both bounds", got)
	}
	least, most := aroundPi(scale)
	if bigOf(t, low).Cmp(least) > 0 || bigOf(t, high).Cmp(most) < 0 {
		t.Errorf("%v: not around %x", got, least)
	}
}
