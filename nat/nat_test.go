package nat_test

import (
	"encoding/binary"
	"math"
	"math/big"
	"math/rand"
	"slices"
	"testing"

	"pelorus/nat"
)

const top = math.MaxUint32

// number is what limbs stand for, told by the library's numbers and by none of the package's own calls.
func number(a []uint32) *big.Int {
	var b []byte
	for _, limb := range slices.Backward(a) {
		b = binary.BigEndian.AppendUint32(b, limb)
	}
	return new(big.Int).SetBytes(b)
}

// expect fails the test unless got is trim and is the number want.
func expect(t *testing.T, what string, got []uint32, want *big.Int) {
	t.Helper()
	if len(got) > 0 && got[len(got)-1] == 0 {
		t.Errorf("%s: %x is not trim", what, got)
	}
	if n := number(got); n.Cmp(want) != 0 {
		if want.BitLen() > 4096 {
			t.Fatalf("%s: a long number is wrong", what)
		}
		t.Fatalf("%s: got %x, want %x", what, n, want)
	}
}

// limbs is a list of its own.
func limbs(l ...uint32) []uint32 { return slices.Clone(l) }

// edges are lists of limbs at which carries, borrows and guesses go wrong, trim ones and others.
func edges() [][]uint32 {
	return [][]uint32{
		nil, {}, {0}, {0, 0, 0}, {1}, {1, 0}, {2}, {3}, {10}, {top}, {top, 0, 0}, {1 << 31}, {1<<31 - 1}, {top - 1},
		{0, 1}, {1, 1}, {0, 1, 0}, {top, top}, {0, 1 << 31}, {top, 1<<31 - 1}, {top - 1, top}, {1, top},
		{0, 0, 1}, {1, 0, 1}, {top, top, top}, {0, 0, 1 << 31}, {1, 0, 1 << 31}, {top, 0, 1 << 31}, {0, top, 1<<31 - 1},
		{0, 0, 0, 1}, {top, top, top, top}, {0, 0, 0, 1 << 31}, {3, 0, 1 << 31, 1}, {0, top, top, top, 0, 0},
		{0, 0, 1 << 31, 1<<31 - 1}, {0, top - 1, 1 << 31}, {0xdeadbeef, 0, 0, 0xcafe}, {1, 2, 3, 4, 5, 6, 7},
	}
}

// someLimbs is a list of up to most limbs, half of them at the edges of their range; often it is not trim.
func someLimbs(r *rand.Rand, most int) []uint32 {
	hard := []uint32{0, 0, 1, 2, 1<<31 - 1, 1 << 31, 1<<31 + 1, top - 1, top, top}
	out := make([]uint32, r.Intn(most+1))
	for i := range out {
		out[i] = r.Uint32()
		if r.Intn(2) == 0 {
			out[i] = hard[r.Intn(len(hard))]
		}
	}
	return out
}

// pairs hands to try all pairs of edges, and many more.
func pairs(try func(a, b []uint32)) {
	for _, a := range edges() {
		for _, b := range edges() {
			try(a, b)
		}
	}
	r := rand.New(rand.NewSource(1))
	for range 40000 {
		try(someLimbs(r, 12), someLimbs(r, 7))
	}
}

// singles hands to try all edges, and many more.
func singles(try func(a []uint32)) {
	for _, a := range edges() {
		try(a)
	}
	r := rand.New(rand.NewSource(2))
	for range 5000 {
		try(someLimbs(r, 12))
	}
}

func TestTrim(t *testing.T) { // P1.1
	singles(func(a []uint32) { expect(t, "Trim", nat.Trim(a), number(a)) })
	if got := nat.Trim(limbs(5, 0, 7, 0, 0)); !slices.Equal(got, limbs(5, 0, 7)) {
		t.Errorf("Trim(5 0 7 0 0): %x", got)
	}
	if got := nat.Trim(limbs(0, 0)); len(got) != 0 {
		t.Errorf("Trim(0 0): %x", got)
	}
}

func TestCmp(t *testing.T) { // P1.1
	pairs(func(a, b []uint32) {
		if got, want := nat.Cmp(a, b), number(a).Cmp(number(b)); got != want {
			t.Errorf("Cmp(%x, %x): %d, not %d", a, b, got, want)
		}
		if got := nat.Cmp(a, append(limbs(a...), 0, 0)); got != 0 {
			t.Errorf("Cmp(%x, the same with noughts): %d", a, got)
		}
	})
	if nat.Cmp(nil, nil) != 0 || nat.Cmp(nil, limbs(0)) != 0 || nat.Cmp(nil, limbs(1)) != -1 || nat.Cmp(limbs(9, 1), limbs(8, 1)) != 1 {
		t.Error("Cmp of short ones")
	}
}

func TestLen(t *testing.T) { // P1.1
	singles(func(a []uint32) {
		if got, want := nat.Len(a), number(a).BitLen(); got != want {
			t.Errorf("Len(%x): %d, not %d", a, got, want)
		}
	})
	if nat.Len(nil) != 0 || nat.Len(limbs(0, 0)) != 0 || nat.Len(limbs(1)) != 1 || nat.Len(limbs(top)) != 32 || nat.Len(limbs(0, 1, 0)) != 33 {
		t.Error("Len of short ones")
	}
}

func TestAdd(t *testing.T) { // P1.2
	pairs(func(a, b []uint32) {
		want := new(big.Int).Add(number(a), number(b))
		expect(t, "Add", nat.Add(a, b), want)
		expect(t, "Add, the other way round", nat.Add(b, a), want)
	})
	if got := nat.Add(limbs(top), limbs(1)); !slices.Equal(got, limbs(0, 1)) {
		t.Errorf("Add(ffffffff, 1): %x", got)
	}
}

func TestSub(t *testing.T) { // P1.2
	pairs(func(a, b []uint32) {
		got, is := nat.Sub(a, b)
		want := new(big.Int).Sub(number(a), number(b))
		if is != (want.Sign() >= 0) {
			t.Fatalf("Sub(%x, %x): %v", a, b, is)
		}
		if !is {
			want.SetInt64(0)
		}
		expect(t, "Sub", got, want)
	})
	if got, is := nat.Sub(limbs(0, 0, 1), limbs(1)); !is || !slices.Equal(got, limbs(top, top)) {
		t.Errorf("Sub(0 0 1, 1): %x, %v", got, is)
	}
	if got, is := nat.Sub(limbs(1, 0), limbs(2)); is || len(got) != 0 {
		t.Errorf("Sub(1 0, 2): %x, %v", got, is)
	}
	if got, is := nat.Sub(nil, limbs(0)); !is || len(got) != 0 {
		t.Errorf("Sub(nothing, 0): %x, %v", got, is)
	}
}

func TestMul(t *testing.T) { // P1.2
	pairs(func(a, b []uint32) {
		want := new(big.Int).Mul(number(a), number(b))
		expect(t, "Mul", nat.Mul(a, b), want)
		expect(t, "Mul, the other way round", nat.Mul(b, a), want)
	})
	if got := nat.Mul(limbs(top, top), limbs(top)); !slices.Equal(got, limbs(1, top, top-1)) {
		t.Errorf("Mul(ffffffff ffffffff, ffffffff): %x", got)
	}
}

func TestDiv(t *testing.T) { // P1.3
	pairs(func(a, b []uint32) {
		q, r, is := nat.Div(a, b)
		if number(b).Sign() == 0 {
			if is || len(q) != 0 || len(r) != 0 {
				t.Fatalf("Div(%x, %x): %x, %x, %v", a, b, q, r, is)
			}
			return
		}
		if !is {
			t.Fatalf("Div(%x, %x): false", a, b)
		}
		wantQ, wantR := new(big.Int).QuoRem(number(a), number(b), new(big.Int))
		expect(t, "Div's quotient", q, wantQ)
		expect(t, "what Div leaves", r, wantR)
	})
	q, r, is := nat.Div(limbs(0, 1), limbs(3))
	if !is || !slices.Equal(q, limbs(0x55555555)) || !slices.Equal(r, limbs(1)) {
		t.Errorf("Div(0 1, 3): %x, %x, %v", q, r, is)
	}
	for _, b := range [][]uint32{nil, {}, {0}, {0, 0}} {
		if q, r, is := nat.Div(limbs(7), b); is || len(q) != 0 || len(r) != 0 {
			t.Errorf("Div(7, %x): %x, %x, %v", b, q, r, is)
		}
	}
}

// TestDivOfHardLimbs goes through all numbers of limbs at which the guess of a digit may be too great.
func TestDivOfHardLimbs(t *testing.T) { // P1.3, P1.6
	hard := []uint32{0, 1, 1<<31 - 1, 1 << 31, top - 1, top}
	n := len(hard)
	for k := range n * n * n * n * n * n * n {
		pick := func() uint32 {
			limb := hard[k%n]
			k /= n
			return limb
		}
		a := limbs(pick(), pick(), pick(), pick())
		b := limbs(pick(), pick(), pick())
		q, r, is := nat.Div(a, b)
		if is != (nat.Len(b) > 0) {
			t.Fatalf("Div(%x, %x): %v", a, b, is)
		}
		if is && (nat.Cmp(r, b) >= 0 || nat.Cmp(nat.Add(nat.Mul(q, b), r), a) != 0) {
			t.Fatalf("Div(%x, %x): %x, %x", a, b, q, r)
		}
	}
}

func TestDivGivesBack(t *testing.T) { // P1.6
	pairs(func(a, b []uint32) {
		q, r, is := nat.Div(a, b)
		if !is {
			return
		}
		if nat.Cmp(r, b) >= 0 {
			t.Errorf("Div(%x, %x) leaves %x", a, b, r)
		}
		if back := nat.Add(nat.Mul(q, b), r); nat.Cmp(back, a) != 0 {
			t.Errorf("Div(%x, %x): %x, %x; back: %x", a, b, q, r, back)
		}
	})
}

// shifts are those at the edges of limbs, and those that shift nothing.
func shifts() []int {
	return []int{math.MinInt, -33, -32, -1, 0, 1, 2, 31, 32, 33, 63, 64, 65, 95, 96, 97, 127, 128, 129, 383, 384, 385, 1000}
}

func TestShl(t *testing.T) { // P1.4
	singles(func(a []uint32) {
		for _, n := range shifts() {
			expect(t, "Shl", nat.Shl(a, n), new(big.Int).Lsh(number(a), uint(max(n, 0))))
		}
	})
	if got := nat.Shl(limbs(3), 63); !slices.Equal(got, limbs(0, 1<<31, 1)) {
		t.Errorf("Shl(3, 63): %x", got)
	}
}

func TestShlFar(t *testing.T) { // P1.4
	most := 1 << 24
	a := limbs(top, 5, 0)
	expect(t, "Shl by 2^24", nat.Shl(a, most), new(big.Int).Lsh(number(a), uint(most)))
	expect(t, "Shl by 2^24 - 1", nat.Shl(a, most-1), new(big.Int).Lsh(number(a), uint(most-1)))
	if got := nat.Shl(limbs(0, 0), most); len(got) != 0 {
		t.Error("Shl of 0 by 2^24 is something")
	}
	for _, n := range []int{most + 1, most + 32, 1 << 30, math.MaxInt - 32, math.MaxInt} {
		if got := nat.Shl(a, n); len(got) != 0 {
			t.Errorf("Shl by %d is something", n)
		}
	}
}

func TestShr(t *testing.T) { // P1.4
	singles(func(a []uint32) {
		for _, n := range shifts() {
			expect(t, "Shr", nat.Shr(a, n), new(big.Int).Rsh(number(a), uint(max(n, 0))))
		}
		for _, n := range []int{1 << 24, 1<<24 + 1, math.MaxInt} {
			expect(t, "Shr of far", nat.Shr(a, n), new(big.Int))
		}
	})
	far := 1<<24 + 64
	long := append(make([]uint32, far/32), 6)
	if got := nat.Shr(long, far+1); !slices.Equal(got, limbs(3)) {
		t.Errorf("Shr by above 2^24: %x", got)
	}
}

func TestRoot(t *testing.T) { // P1.5
	try := func(a []uint32) {
		got, is := nat.Root(a)
		want := new(big.Int).Sqrt(number(a))
		expect(t, "Root", got, want)
		if square := new(big.Int).Mul(want, want); is != (square.Cmp(number(a)) == 0) {
			t.Errorf("Root(%x): %x, %v", a, got, is)
		}
	}
	singles(func(a []uint32) {
		try(a)
		square := nat.Mul(a, a)
		try(square)
		try(nat.Add(square, limbs(1)))
		if less, is := nat.Sub(square, limbs(1)); is {
			try(less)
		}
	})
	for n := range uint32(3000) {
		try(limbs(n, 0))
	}
	for n := range 300 {
		try(nat.Shl(limbs(1), n))
	}
	if got, is := nat.Root(limbs(10)); is || !slices.Equal(got, limbs(3)) {
		t.Errorf("Root(10): %x, %v", got, is)
	}
	if got, is := nat.Root(nil); !is || len(got) != 0 {
		t.Errorf("Root of nothing: %x, %v", got, is)
	}
}

// call is one of the package's, with all lists that it answers.
type call struct {
	name string
	do   func(a, b []uint32) [][]uint32
}

func calls() []call {
	return []call{
		{"Trim", func(a, b []uint32) [][]uint32 { return [][]uint32{nat.Trim(a), nat.Trim(b)} }},
		{"Cmp", func(a, b []uint32) [][]uint32 { nat.Cmp(a, b); return nil }},
		{"Len", func(a, b []uint32) [][]uint32 { nat.Len(a); nat.Len(b); return nil }},
		{"Add", func(a, b []uint32) [][]uint32 { return [][]uint32{nat.Add(a, b)} }},
		{"Sub", func(a, b []uint32) [][]uint32 { d, _ := nat.Sub(a, b); return [][]uint32{d} }},
		{"Mul", func(a, b []uint32) [][]uint32 { return [][]uint32{nat.Mul(a, b)} }},
		{"Div", func(a, b []uint32) [][]uint32 { q, r, _ := nat.Div(a, b); return [][]uint32{q, r} }},
		{"Shl by none", func(a, b []uint32) [][]uint32 { return [][]uint32{nat.Shl(a, 0), nat.Shl(b, -1)} }},
		{"Shl", func(a, b []uint32) [][]uint32 { return [][]uint32{nat.Shl(a, 32), nat.Shl(b, 5)} }},
		{"Shr by none", func(a, b []uint32) [][]uint32 { return [][]uint32{nat.Shr(a, 0), nat.Shr(b, -1)} }},
		{"Shr", func(a, b []uint32) [][]uint32 { return [][]uint32{nat.Shr(a, 32), nat.Shr(b, 5)} }},
		{"Root", func(a, b []uint32) [][]uint32 { r, _ := nat.Root(a); s, _ := nat.Root(b); return [][]uint32{r, s} }},
	}
}

// spoil changes all limbs of a list, and all that it has room for behind them.
func spoil(a []uint32) {
	for i := range a[:cap(a)] {
		a[:cap(a)][i] ^= 0x5a5a5a5a
	}
}

func sameLists(a, b [][]uint32) bool {
	return slices.EqualFunc(a, b, slices.Equal[[]uint32])
}

func copies(l [][]uint32) [][]uint32 {
	out := make([][]uint32, len(l))
	for i := range l {
		out[i] = slices.Clone(l[i])
	}
	return out
}

func TestNothingIsShared(t *testing.T) { // R3, R5
	for _, a := range edges() {
		for _, b := range edges() {
			for _, c := range calls() {
				checkOwn(t, c, a, b)
			}
		}
	}
}

// checkOwn makes a call and holds that no change to what was handed in, or to a list that was answered, is seen
// in anything else; nor has the call written behind what was handed in.
func checkOwn(t *testing.T, c call, a, b []uint32) {
	t.Helper()
	mine := [][]uint32{append(limbs(a...), 8, 8, 8), append(limbs(b...), 9, 9, 9)}
	was := copies(mine)
	got := c.do(mine[0][:len(a)], mine[1][:len(b)])
	if !sameLists(mine, was) {
		t.Fatalf("%s(%x, %x) changed what was handed in", c.name, a, b)
	}
	want := copies(got)
	if again := c.do(mine[0][:len(a)], mine[1][:len(b)]); !sameLists(again, want) {
		t.Fatalf("%s(%x, %x): %x, and then %x", c.name, a, b, want, again)
	}
	for i := range got {
		spoil(got[i])
		if !sameLists(mine, was) {
			t.Fatalf("%s(%x, %x): an answer shares memory with what was handed in", c.name, a, b)
		}
		if !sameLists(got[i+1:], want[i+1:]) {
			t.Fatalf("%s(%x, %x): two answers share memory", c.name, a, b)
		}
	}
	got = c.do(mine[0][:len(a)], mine[1][:len(b)])
	spoil(mine[0])
	spoil(mine[1])
	if !sameLists(got, want) {
		t.Fatalf("%s(%x, %x): what was handed in is kept in an answer", c.name, a, b)
	}
}

func TestOneListTwice(t *testing.T) { // R3
	for _, a := range edges() {
		mine := limbs(a...)
		n := number(a)
		expect(t, "Add of one list", nat.Add(mine, mine), new(big.Int).Add(n, n))
		expect(t, "Mul of one list", nat.Mul(mine, mine), new(big.Int).Mul(n, n))
		d, is := nat.Sub(mine, mine)
		if !is {
			t.Errorf("Sub(%x, the same): false", a)
		}
		expect(t, "Sub of one list", d, new(big.Int))
		if q, r, is := nat.Div(mine, mine); is {
			expect(t, "Div of one list", q, big.NewInt(1))
			expect(t, "what Div of one list leaves", r, new(big.Int))
		}
		if !slices.Equal(mine, a) {
			t.Errorf("%x was changed", a)
		}
	}
}

func TestLongNumbers(t *testing.T) { // P1.2, P1.3, P1.5
	r := rand.New(rand.NewSource(3))
	for range 20 {
		a, b := someLimbs(r, 900), append(someLimbs(r, 400), 1)
		expect(t, "Mul of long ones", nat.Mul(a, b), new(big.Int).Mul(number(a), number(b)))
		q, rest, _ := nat.Div(a, b)
		wantQ, wantR := new(big.Int).QuoRem(number(a), number(b), new(big.Int))
		expect(t, "Div of long ones", q, wantQ)
		expect(t, "what Div of long ones leaves", rest, wantR)
		root, _ := nat.Root(a)
		expect(t, "Root of a long one", root, new(big.Int).Sqrt(number(a)))
		back, is := nat.Root(nat.Mul(b, b))
		expect(t, "Root of a long square", back, number(b))
		if !is {
			t.Error("Root of a long square: false")
		}
	}
}
