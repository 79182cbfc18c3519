package num_test

import (
	"encoding/binary"
	"math"
	"math/big"
	"math/rand"
	"slices"
	"testing"

	"pelorus/api"
	"pelorus/dy"
	"pelorus/num"
	"pelorus/whole"
)

// bits is a dyadic number of a sign and the library's number, times 2^e, whether it may be or not.
func bits(neg bool, n *big.Int, e int) api.Dy {
	b := n.Bytes()
	b = append(make([]byte, (4-len(b)%4)%4), b...)
	var m []uint32
	for i := len(b); i > 0; i -= 4 {
		m = append(m, binary.BigEndian.Uint32(b[i-4:]))
	}
	return raw(neg, e, m...)
}

// power is 2^k and n more.
func power(k uint, n int64) *big.Int {
	out := new(big.Int).Lsh(big.NewInt(1), k)
	return out.Add(out, big.NewInt(n))
}

// checkRound holds that a dyadic number is rounded to itself or to the two numbers beside it, and its opposite to
// their opposites.
func checkRound(t *testing.T, d api.Dy) {
	t.Helper()
	v := valueOf(d)
	lo, hi := num.Round(d, false), num.Round(d, true)
	if !mayBe(lo) || !mayBe(hi) || !num.May(lo) || !num.May(hi) {
		t.Fatalf("Round(%.50v): %v, %v: one may not be", d, lo, hi)
	}
	gap := new(big.Int).Sub(index(hi), index(lo))
	switch {
	case beside(lo, v) > 0 || beside(hi, v) < 0:
		t.Fatalf("Round(%.50v): %v, %v: not on both sides", d, lo, hi)
	case beside(lo, v) == 0 || beside(hi, v) == 0:
		if lo != hi {
			t.Fatalf("Round(%.50v): %v, %v: one is the same, the other is not", d, lo, hi)
		}
	case gap.Cmp(big.NewInt(1)) != 0 || num.Next(lo, true) != hi || num.Next(hi, false) != lo || num.Cmp(lo, hi) != -1:
		t.Fatalf("Round(%.50v): %v, %v: another one is between", d, lo, hi)
	}
	other := raw(!d.N.Neg, d.E, d.N.M...)
	expect(t, "Round of the opposite, up", num.Round(other, true), minus(lo))
	expect(t, "Round of the opposite, not up", num.Round(other, false), minus(hi))
}

// expectRound fails the test unless a dyadic number is rounded to lo and hi.
func expectRound(t *testing.T, what string, d api.Dy, lo, hi api.Num) {
	t.Helper()
	expect(t, what+", not up", num.Round(d, false), lo)
	expect(t, what+", up", num.Round(d, true), hi)
	checkRound(t, d)
}

func TestRoundToItself(t *testing.T) { // P5.2, P5.5
	for _, n := range row() {
		if n.Kind != api.Inf {
			expectRound(t, "itself", dyOf(n), n, n)
		}
	}
	r := rand.New(rand.NewSource(6))
	for range 300 {
		n := someNum(r)
		if n.Kind == api.Inf {
			continue
		}
		d, _ := num.Exact(n)
		expectRound(t, "itself, by Exact", d, n, n)
	}
	expectRound(t, "nought", api.Dy{}, api.Num{}, api.Num{})
	expectRound(t, "the Tiny", of(1, minE+63), tiny(false), tiny(false))
	expectRound(t, "the Tiny below nought", of(-1, minE+63), tiny(true), tiny(true))
	expectRound(t, "the Huge", bits(false, power(64, -1), maxE), huge(false), huge(false))
	expectRound(t, "the Huge below nought", bits(true, power(64, -1), maxE), huge(true), huge(true))
	for _, n := range []int{1, -1, 3, -7, 1 << 32, 1<<32 + 1, 1<<62 + 1, math.MaxInt64, math.MinInt64, math.MinInt64 + 1} {
		expectRound(t, "a whole number", of(n, 0), num.Of(n), num.Of(n))
	}
}

// TestRoundOf64Bits has numbers of 64 bits and fewer: nothing is cut.
func TestRoundOf64Bits(t *testing.T) { // P5.2
	for k := range 64 {
		m := uint64(1)<<k | 1
		want := fin(false, m<<(63-k), 9-(63-k))
		expectRound(t, "of 64 bits or fewer", bits(false, new(big.Int).SetUint64(m), 9), want, want)
		expectRound(t, "of 64 bits or fewer, below nought", bits(true, new(big.Int).SetUint64(m), 9), minus(want), minus(want))
	}
	for _, m := range []uint64{full, full - 2, high + 1, high | 1<<32 | 1} {
		expectRound(t, "of 64 bits", bits(false, new(big.Int).SetUint64(m), -3), fin(false, m, -3), fin(false, m, -3))
	}
}

// TestRoundOfMoreBits has numbers whose highest 64 bits are m, with bits behind: nought but for the last one, all set,
// and others.
func TestRoundOfMoreBits(t *testing.T) { // P5.2, P5.5
	r := rand.New(rand.NewSource(7))
	for _, m := range []uint64{high, high + 1, high | 1<<32, 3 << 62, 1<<63 | 1<<62 - 1, full - 1<<32, full - 1} {
		for _, behind := range []uint{1, 2, 31, 32, 33, 63, 64, 65, 96, 1000} {
			front := new(big.Int).Lsh(new(big.Int).SetUint64(m), behind)
			some := new(big.Int).Rand(r, power(behind, 0))
			for _, rest := range []*big.Int{big.NewInt(1), power(behind, -1), power(behind-1, 0), some.SetBit(some, 0, 1)} {
				n := new(big.Int).Or(front, rest)
				for _, e := range []int{0, -int(behind), 77, -500} {
					lo, hi := fin(false, m, e+int(behind)), fin(false, m+1, e+int(behind))
					expectRound(t, "of more bits", bits(false, n, e), lo, hi)
					expectRound(t, "of more bits, below nought", bits(true, n, e), minus(hi), minus(lo))
				}
			}
		}
	}
}

// TestRoundOfAllBits has numbers all of whose bits are set: away from nought they end at the next power of two.
func TestRoundOfAllBits(t *testing.T) { // P5.2, P5.5
	for _, k := range []uint{65, 66, 95, 96, 97, 128, 129, 1000} {
		lo, hi := fin(false, full, int(k)-64), fin(false, high, int(k)-63)
		expectRound(t, "all bits", bits(false, power(k, -1), 0), lo, hi)
		expectRound(t, "all bits, below nought", bits(true, power(k, -1), 0), minus(hi), minus(lo))
		// All 64 bits, and one far behind.
		n := new(big.Int).Lsh(power(64, -1), k)
		lo, hi = fin(false, full, int(k)), fin(false, high, int(k)+1)
		expectRound(t, "all 64 bits, and one", bits(false, n.SetBit(n, 0, 1), 0), lo, hi)
	}
	// At the least E, too, and at the greatest one to which it may turn.
	expectRound(t, "all bits, at the least E", bits(false, power(65, -1), minE-1), fin(false, full, minE), fin(false, high, minE+1))
	expectRound(t, "all bits, ahead of the least E", bits(false, power(65, -1), minE-2), api.Num{}, tiny(false))
	expectRound(t, "all bits, ahead of the greatest E", bits(true, power(65, -1), maxE-2), fin(true, high, maxE), fin(true, full, maxE-1))
}

// TestRoundNearNought has numbers between nought and the Tiny, far below it, too, and between the Tiny and the next.
func TestRoundNearNought(t *testing.T) { // P5.2, P5.5
	none, least, next := api.Num{}, tiny(false), fin(false, high+1, minE)
	for _, c := range []struct {
		name   string
		d      api.Dy
		lo, hi api.Num
	}{
		{"half the Tiny", of(1, minE+62), none, least},
		{"a part of the Tiny", of(1, minE), none, least},
		{"a lesser part of it", of(1, minE-1), none, least},
		{"three quarters of the Tiny", of(3, minE+61), none, least},
		{"the Tiny without its last part", bits(false, power(63, -1), minE), none, least},
		{"just below the Tiny", bits(false, power(200, -1), minE+63-200), none, least},
		{"just below the Tiny, of 64 bits", bits(false, power(64, -1), minE-1), none, least},
		{"far below", of(1, -maxDy), none, least},
		{"far below, of many bits", bits(false, power(3000, 1), -maxDy), none, least},
		{"below by 2^20", of(7, 2*minE), none, least},
		{"just above the Tiny", bits(false, power(200, 1), minE+63-200), least, next},
		{"just above the Tiny, of 65 bits", bits(false, power(64, 1), minE-1), least, next},
		{"just below the next one", bits(false, new(big.Int).Sub(new(big.Int).Lsh(power(63, 1), 99), big.NewInt(1)), minE-99), least, next},
		{"as near to the Tiny as can be", dy.Add(of(1, minE+63), of(1, -maxDy)), least, next},
		{"as near to it from below", dy.Sub(of(1, minE+63), of(1, -maxDy)), none, least},
	} {
		expectRound(t, c.name, c.d, c.lo, c.hi)
		expectRound(t, c.name+", below nought", dy.Neg(c.d), minus(c.hi), minus(c.lo))
	}
}

// TestRoundBeyondTheHuge has numbers between the Huge and the power of two beyond it, that power, and greater ones.
func TestRoundBeyondTheHuge(t *testing.T) { // P5.2, P5.5
	most, ahead := huge(false), fin(false, full-1, maxE)
	for _, c := range []struct {
		name   string
		d      api.Dy
		lo, hi api.Num
	}{
		{"just below the Huge", dy.Sub(bits(false, power(64, -1), maxE), of(1, -maxDy)), ahead, most},
		{"just above the Huge", dy.Add(bits(false, power(64, -1), maxE), of(1, -maxDy)), most, inf(false)},
		{"between", bits(false, power(65, -1), maxE-1), most, inf(false)},
		{"between, of many bits", bits(false, power(1000, -1), maxE-1000+64), most, inf(false)},
		{"just below the power", dy.Sub(of(1, maxE+64), of(1, 0)), most, inf(false)},
		{"the power", of(1, maxE+64), most, inf(false)},
		{"just above the power", dy.Add(of(1, maxE+64), of(1, 0)), most, inf(false)},
		{"above the power", bits(false, power(64, 1), maxE), most, inf(false)},
		{"with an E one beyond", bits(false, power(64, -1), maxE+1), most, inf(false)},
		{"twice the power", of(1, maxE+65), most, inf(false)},
		{"far beyond", of(1, maxDy), most, inf(false)},
		{"far beyond, of many bits", bits(false, power(5000, 1), maxDy), most, inf(false)},
		{"far beyond by its bits alone", bits(false, power(1<<21, 1), 0), most, inf(false)},
		{"with an E beyond, and yet below", of(1, maxE+63), fin(false, high, maxE), fin(false, high, maxE)},
	} {
		expectRound(t, c.name, c.d, c.lo, c.hi)
		expectRound(t, c.name+", below nought", dy.Neg(c.d), minus(c.hi), minus(c.lo))
	}
}

// TestRoundOfLongNumbers has numbers with so many bits that their exponent says little of where they are.
func TestRoundOfLongNumbers(t *testing.T) { // P5.2
	lo, hi := fin(false, high, -63), fin(false, high+1, -63)
	expectRound(t, "1 and a bit, as long as can be", bits(false, power(maxDy, 1), -maxDy), lo, hi)
	expectRound(t, "1 less a bit, as long as can be", bits(false, power(maxDy, -1), -maxDy), fin(false, full, -64), lo)
	expectRound(t, "-1 and a bit, as long as can be", bits(true, power(maxDy, 1), -maxDy), minus(hi), minus(lo))
	expectRound(t, "the Tiny and a bit, by many bits", bits(false, power(3<<20, 1), minE+63-3<<20), tiny(false), fin(false, high+1, minE))
}

// TestRoundOfMayNot has dyadic numbers that may not be: they are rounded as what they are taken for.
func TestRoundOfMayNot(t *testing.T) { // P5.2
	one, five := num.Of(1), num.Of(5)
	for _, c := range []struct {
		name string
		d    api.Dy
		want api.Num
	}{
		{"an even N", raw(false, -1, 2), one}, {"an even N of limbs", raw(false, -64, 0, 0, 1), one},
		{"noughts in the highest limbs", raw(false, 0, 5, 0, 0), five}, {"both", raw(true, -1, 10, 0), num.Of(-5)},
		{"nought with an E", raw(false, 7), api.Num{}}, {"nought with a sign", raw(true, 0), api.Num{}},
		{"nought with limbs", raw(true, 5, 0, 0), api.Num{}},
		{"an E above", raw(false, maxDy+1, 1), api.Num{}}, {"an E below", raw(true, -maxDy-1, 1), api.Num{}},
		{"an E below, N even", raw(true, -maxDy-1, 2), api.Num{}}, {"an E above once N is odd", raw(false, maxDy, 2), api.Num{}},
		{"an E far above", raw(false, math.MaxInt64, 1), api.Num{}}, {"an E far below", raw(true, math.MinInt64, 1), api.Num{}},
		{"an E far above, N even", raw(true, math.MaxInt64, 0, 4), api.Num{}},
		{"nought with an E far above", raw(false, math.MaxInt64), api.Num{}},
	} {
		if dy.May(c.d) {
			t.Fatalf("%s: may be", c.name)
		}
		expectRound(t, c.name, c.d, c.want, c.want)
	}
	// Even ones that are to be cut: many noughts at the end, and a bit among them.
	long := raw(true, -100, 0, 0, 0, 1<<31|1, 7, 0)
	lo, hi := num.Round(dy.Make(long.N, long.E), false), num.Round(dy.Make(long.N, long.E), true)
	expectRound(t, "an even N of many limbs", long, lo, hi)
	expectRound(t, "an even N of 65 bits", raw(false, 0, 2, 0, 1), fin(false, high+1, 1), fin(false, high+1, 1))
	expectRound(t, "an even N of 66 bits", raw(false, 0, 2, 0, 2), fin(false, high, 2), fin(false, high+1, 2))
	expectRound(t, "an E at the bound, N even", raw(false, maxDy-1, 2), huge(false), inf(false))
	expectRound(t, "noughts ahead, beyond the Huge", raw(true, maxE+64, 1, 0), inf(true), huge(true))
}

// TestRoundOfMany rounds numbers of up to 8 limbs, half of these at the edges of their range.
func TestRoundOfMany(t *testing.T) { // P5.2, P5.5
	r := rand.New(rand.NewSource(8))
	hard := []uint32{0, 0, 1, 2, 1<<31 - 1, 1 << 31, math.MaxUint32 - 1, math.MaxUint32}
	for range 20000 {
		m := make([]uint32, r.Intn(9))
		for i := range m {
			m[i] = r.Uint32()
			if r.Intn(2) == 0 {
				m[i] = hard[r.Intn(len(hard))]
			}
		}
		from := []int{0, minE - 32*len(m), maxE - 32*len(m)}[r.Intn(3)]
		checkRound(t, raw(r.Intn(2) == 0, from+r.Intn(300)-150, m...))
	}
}

// TestRoundBesideNumbers goes a bit to both sides of numbers of all kinds: the next one there is answered.
func TestRoundBesideNumbers(t *testing.T) { // P5.2, P5.3, P5.5
	for _, n := range row() {
		if n.Kind == api.Inf {
			continue
		}
		bit := of(1, n.E-500)
		if n.Kind == api.Zero {
			bit = of(1, minE)
		}
		expectRound(t, "a bit above", dy.Add(dyOf(n), bit), n, num.Next(n, true))
		expectRound(t, "a bit below", dy.Sub(dyOf(n), bit), num.Next(n, false), n)
	}
}

// TestRoundRises holds that greater numbers are not rounded to lesser ones.
func TestRoundRises(t *testing.T) { // P5.2
	var l []api.Dy
	for n := -40; n <= 40; n++ {
		l = append(l, of(n, -70), dy.Add(of(1, 0), of(n, -66)), of(n, minE+60), of(n, maxE+60), of(n, maxE+61), dy.Add(of(1, maxE+64), of(n, maxE-2)))
	}
	slices.SortFunc(l, dy.Cmp)
	for i := range l[1:] {
		for _, up := range []bool{false, true} {
			if a, b := num.Round(l[i], up), num.Round(l[i+1], up); num.Cmp(a, b) > 0 {
				t.Errorf("Round(%v): %v; Round(%v): %v", l[i], a, l[i+1], b)
			}
		}
	}
	for _, d := range l {
		checkRound(t, d)
	}
}

// TestRoundOfWholes rounds whole numbers of 64 bits, which are rounded to themselves, and products of two.
func TestRoundOfWholes(t *testing.T) { // P5.1, P5.2, P5.5
	r := rand.New(rand.NewSource(9))
	for range 2000 {
		a, b := int(r.Uint64())>>r.Intn(64), int(r.Uint64())>>r.Intn(64)
		expectRound(t, "Of", of(a, 0), num.Of(a), num.Of(a))
		checkRound(t, api.Dy{N: whole.Mul(whole.From(a), whole.From(b))})
	}
}
