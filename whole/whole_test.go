package whole_test

import (
	"encoding/binary"
	"math"
	"math/big"
	"math/rand"
	"slices"
	"testing"

	"pelorus/api"
	"pelorus/nat"
	"pelorus/whole"
)

const top = math.MaxUint32

// number is what a sign and limbs stand for, told by the library's numbers and by none of the package's own calls.
func number(w api.Whole) *big.Int {
	var b []byte
	for _, limb := range slices.Backward(w.M) {
		b = binary.BigEndian.AppendUint32(b, limb)
	}
	n := new(big.Int).SetBytes(b)
	if w.Neg {
		n.Neg(n)
	}
	return n
}

// mayBe tells the same as May, by the chapter's words alone.
func mayBe(w api.Whole) bool {
	trim := len(w.M) == 0 || w.M[len(w.M)-1] != 0
	return trim && !(w.Neg && len(w.M) == 0)
}

// expect fails the test unless got may be and is the number want.
func expect(t *testing.T, what string, got api.Whole, want *big.Int) {
	t.Helper()
	if !mayBe(got) {
		t.Fatalf("%s: %v %x may not be", what, got.Neg, got.M)
	}
	if n := number(got); n.Cmp(want) != 0 {
		t.Fatalf("%s: got %x, want %x", what, n, want)
	}
}

// isNought tells whether an answer is the zero value.
func isNought(w api.Whole) bool { return !w.Neg && len(w.M) == 0 }

func of(neg bool, m ...uint32) api.Whole { return api.Whole{Neg: neg, M: m} }

// mayNot are numbers that may not be: noughts in the highest limbs, Neg without a limb, and both.
func mayNot() []api.Whole {
	return []api.Whole{
		of(true), {Neg: true, M: []uint32{}}, of(false, 0), of(true, 0), of(false, 0, 0, 0), of(true, 0, 0, 0),
		of(false, 1, 0), of(true, 1, 0), of(false, 7, 0, 0), of(true, 7, 0, 0), of(true, 2, 0), of(false, 2, 0),
		of(false, top, 1<<31-1, 0), of(true, 0, 1<<31, 0), of(false, 0, 1<<31, 0, 0), of(true, 1, 1<<31, 0),
		of(false, top, top, 0), of(true, 0, 0, 1, 0), of(false, 0, 0, 1, 0, 0), of(true, 3, 5, 7, 0),
	}
}

// edges are numbers at which signs and bounds go wrong, those that may be and those that may not.
func edges() []api.Whole {
	out := []api.Whole{
		{}, {M: []uint32{}},
		of(false, top), of(false, top-1), of(false, 0, 1), of(false, 1, 1), of(false, top, 1<<31-1), of(false, 0, 1<<31),
		of(false, 1, 1<<31), of(false, top, top), of(false, 0, 0, 1), of(false, 1, 0, 1), of(false, top, top, top),
	}
	for n := range uint32(9) {
		out = append(out, of(false, n+1))
	}
	for _, w := range slices.Clone(out[2:]) {
		out = append(out, of(true, w.M...))
	}
	return append(out, mayNot()...)
}

// someWhole is a number of up to most limbs; now and then it may not be.
func someWhole(r *rand.Rand, most int) api.Whole {
	hard := []uint32{0, 0, 1, 1<<31 - 1, 1 << 31, top, top}
	m := make([]uint32, r.Intn(most+1))
	for i := range m {
		m[i] = r.Uint32()
		if r.Intn(2) == 0 {
			m[i] = hard[r.Intn(len(hard))]
		}
	}
	return of(r.Intn(2) == 0, m...)
}

// pairs hands to try all pairs of edges, and many more.
func pairs(try func(a, b api.Whole)) {
	for _, a := range edges() {
		for _, b := range edges() {
			try(a, b)
		}
	}
	r := rand.New(rand.NewSource(1))
	for range 20000 {
		try(someWhole(r, 7), someWhole(r, 4))
	}
}

// smallPairs hands to try all pairs of small numbers.
func smallPairs(try func(a, b int)) {
	for a := -20; a <= 20; a++ {
		for b := -20; b <= 20; b++ {
			try(a, b)
		}
	}
}

func TestMake(t *testing.T) { // P2.1
	for _, w := range edges() {
		got := whole.Make(w.Neg, w.M)
		expect(t, "Make", got, number(w))
		if !slices.Equal(got.M, nat.Trim(w.M)) {
			t.Errorf("Make(%v, %x): limbs %x", w.Neg, w.M, got.M)
		}
	}
	if got := whole.Make(true, []uint32{5, 0, 0}); !got.Neg || !slices.Equal(got.M, []uint32{5}) {
		t.Errorf("Make(true, 5 0 0): %v", got)
	}
	for _, m := range [][]uint32{nil, {}, {0}, {0, 0}} {
		for _, neg := range []bool{false, true} {
			if got := whole.Make(neg, m); !isNought(got) {
				t.Errorf("Make(%v, %x): %v", neg, m, got)
			}
		}
	}
}

func TestMay(t *testing.T) { // P2.1
	for _, w := range edges() {
		if got := whole.May(w); got != mayBe(w) {
			t.Errorf("May(%v, %x): %v", w.Neg, w.M, got)
		}
		if !whole.May(whole.Make(w.Neg, w.M)) {
			t.Errorf("Make(%v, %x) may not be", w.Neg, w.M)
		}
	}
	for _, w := range mayNot() {
		if whole.May(w) {
			t.Errorf("May(%v, %x): true", w.Neg, w.M)
		}
	}
	for _, w := range []api.Whole{{}, {M: []uint32{}}, of(false, 1), of(true, 1), of(false, 0, 1), of(true, 0, 0, top)} {
		if !whole.May(w) {
			t.Errorf("May(%v, %x): false", w.Neg, w.M)
		}
	}
}

// ints are numbers of 64 bits, both ends of their range among them.
func ints() []int {
	out := []int{math.MinInt64, math.MaxInt64, math.MinInt64 + 1, math.MaxInt64 - 1, 0, 1, -1, 7, -7}
	for shift := range 63 {
		for _, n := range []int{-1, 0, 1} {
			out = append(out, 1<<shift+n, -1<<shift+n)
		}
	}
	return out
}

func TestFrom(t *testing.T) { // P2.1
	for _, n := range ints() {
		expect(t, "From", whole.From(n), big.NewInt(int64(n)))
		if got, is := whole.Int(whole.From(n)); !is || got != n {
			t.Errorf("Int(From(%d)): %d, %v", n, got, is)
		}
	}
	if got := whole.From(math.MinInt64); !got.Neg || !slices.Equal(got.M, []uint32{0, 1 << 31}) {
		t.Errorf("From(-2^63): %v", got)
	}
	if got := whole.From(math.MaxInt64); got.Neg || !slices.Equal(got.M, []uint32{top, 1<<31 - 1}) {
		t.Errorf("From(2^63 - 1): %v", got)
	}
	if got := whole.From(0); !isNought(got) {
		t.Errorf("From(0): %v", got)
	}
}

func TestInt(t *testing.T) { // P2.1
	try := func(w api.Whole) {
		t.Helper()
		got, is := whole.Int(w)
		want := number(w)
		if is != want.IsInt64() {
			t.Errorf("Int(%v, %x): %v", w.Neg, w.M, is)
		}
		if !is {
			want.SetInt64(0)
		}
		if int64(got) != want.Int64() {
			t.Errorf("Int(%v, %x): %d, not %d", w.Neg, w.M, got, want)
		}
	}
	for _, w := range edges() {
		try(w)
	}
	r := rand.New(rand.NewSource(2))
	for range 5000 {
		try(someWhole(r, 3))
	}
}

// TestEndsOfInt goes to both ends of the 64-bit range, and one beyond each, also with noughts in the highest limbs.
func TestEndsOfInt(t *testing.T) { // P2.1
	for _, c := range []struct {
		w    api.Whole
		want int
		is   bool
	}{
		{of(false, top, 1<<31-1), math.MaxInt64, true},
		{of(false, top, 1<<31-1, 0, 0), math.MaxInt64, true},
		{of(false, 0, 1<<31), 0, false},
		{of(false, 0, 1<<31, 0), 0, false},
		{of(true, 0, 1<<31), math.MinInt64, true},
		{of(true, 0, 1<<31, 0), math.MinInt64, true},
		{of(true, 1, 1<<31), 0, false},
		{of(true, 1, 1<<31, 0), 0, false},
		{of(false, top, top), 0, false},
		{of(true, top, top), 0, false},
		{of(false, 0, 0, 1), 0, false},
		{of(true, 5, 0, 1), 0, false},
		{of(true), 0, true},
		{of(true, 0, 0, 0), 0, true},
	} {
		if got, is := whole.Int(c.w); got != c.want || is != c.is {
			t.Errorf("Int(%v, %x): %d, %v", c.w.Neg, c.w.M, got, is)
		}
	}
	one := whole.From(1)
	if n, is := whole.Int(whole.Add(whole.From(math.MaxInt64), one)); is || n != 0 {
		t.Errorf("2^63: %d, %v", n, is)
	}
	if n, is := whole.Int(whole.Sub(whole.From(math.MinInt64), one)); is || n != 0 {
		t.Errorf("-2^63 - 1: %d, %v", n, is)
	}
	if n, is := whole.Int(whole.Neg(whole.From(math.MinInt64))); is || n != 0 {
		t.Errorf("the opposite of -2^63: %d, %v", n, is)
	}
}

func TestSign(t *testing.T) { // P2.2
	for _, w := range edges() {
		if got, want := whole.Sign(w), number(w).Sign(); got != want {
			t.Errorf("Sign(%v, %x): %d, not %d", w.Neg, w.M, got, want)
		}
	}
	if whole.Sign(whole.From(-3)) != -1 || whole.Sign(whole.From(0)) != 0 || whole.Sign(whole.From(3)) != 1 || whole.Sign(of(true, 0)) != 0 {
		t.Error("Sign of small ones")
	}
}

func TestCmp(t *testing.T) { // P2.2
	pairs(func(a, b api.Whole) {
		want := number(a).Cmp(number(b))
		if got := whole.Cmp(a, b); got != want {
			t.Errorf("Cmp(%v %x, %v %x): %d, not %d", a.Neg, a.M, b.Neg, b.M, got, want)
		}
		if got := whole.Same(a, b); got != (want == 0) {
			t.Errorf("Same(%v %x, %v %x): %v", a.Neg, a.M, b.Neg, b.M, got)
		}
	})
	smallPairs(func(a, b int) {
		want := big.NewInt(int64(a)).Cmp(big.NewInt(int64(b)))
		if got := whole.Cmp(whole.From(a), whole.From(b)); got != want {
			t.Errorf("Cmp(%d, %d): %d", a, b, got)
		}
		if got := whole.Same(whole.From(a), whole.From(b)); got != (a == b) {
			t.Errorf("Same(%d, %d): %v", a, b, got)
		}
	})
	if !whole.Same(of(true), of(false, 0, 0)) || whole.Same(of(true, 4), of(false, 4)) {
		t.Error("Same")
	}
}

func TestNeg(t *testing.T) { // P2.2
	for _, a := range edges() {
		expect(t, "Neg", whole.Neg(a), new(big.Int).Neg(number(a)))
		expect(t, "Neg of Neg", whole.Neg(whole.Neg(a)), number(a))
	}
	for _, n := range []int{0, 1, -1, 5, -5} {
		expect(t, "Neg of a small one", whole.Neg(whole.From(n)), big.NewInt(int64(-n)))
	}
}

func TestAdd(t *testing.T) { // P2.2
	pairs(func(a, b api.Whole) {
		expect(t, "Add", whole.Add(a, b), new(big.Int).Add(number(a), number(b)))
	})
	smallPairs(func(a, b int) {
		expect(t, "Add of small ones", whole.Add(whole.From(a), whole.From(b)), big.NewInt(int64(a+b)))
	})
}

func TestSub(t *testing.T) { // P2.2
	pairs(func(a, b api.Whole) {
		expect(t, "Sub", whole.Sub(a, b), new(big.Int).Sub(number(a), number(b)))
	})
	smallPairs(func(a, b int) {
		expect(t, "Sub of small ones", whole.Sub(whole.From(a), whole.From(b)), big.NewInt(int64(a-b)))
	})
}

// product is that of all, by the library's numbers.
func product(l []api.Whole) *big.Int {
	out := big.NewInt(1)
	for _, w := range l {
		out.Mul(out, number(w))
	}
	return out
}

func TestMul(t *testing.T) { // P2.2
	expect(t, "Mul of none", whole.Mul(), big.NewInt(1))
	expect(t, "Mul of an empty list", whole.Mul([]api.Whole{}...), big.NewInt(1))
	for _, a := range edges() {
		expect(t, "Mul of one", whole.Mul(a), number(a))
	}
	pairs(func(a, b api.Whole) {
		expect(t, "Mul of two", whole.Mul(a, b), product([]api.Whole{a, b}))
	})
	expect(t, "Mul(2, -3, 4)", whole.Mul(whole.From(2), whole.From(-3), whole.From(4)), big.NewInt(-24))
	smallPairs(func(a, b int) {
		expect(t, "Mul of three", whole.Mul(whole.From(a), whole.From(-2), whole.From(b)), big.NewInt(int64(-2*a*b)))
	})
}

func TestMulOfMany(t *testing.T) { // P2.2
	r := rand.New(rand.NewSource(3))
	for range 300 {
		l := make([]api.Whole, r.Intn(20))
		for i := range l {
			l[i] = someWhole(r, 4)
			if r.Intn(2) == 0 {
				l[i].M = append(l[i].M, 1)
			}
		}
		expect(t, "Mul of many", whole.Mul(l...), product(l))
	}
	var minus []api.Whole
	for n := range 100 {
		want := big.NewInt(int64(1 - n%2*2))
		expect(t, "Mul of -1 again and again", whole.Mul(minus...), want)
		minus = append(minus, whole.From(-1))
	}
}

func TestMulWithNought(t *testing.T) { // P2.2
	for _, nought := range []api.Whole{{}, {M: []uint32{}}, of(true), of(false, 0), of(true, 0, 0)} {
		for place := range 5 {
			for _, n := range []int{3, -3} {
				l := []api.Whole{whole.From(n), whole.From(n), whole.From(n), whole.From(-n)}
				l = slices.Insert(l, place, nought)
				if got := whole.Mul(l...); !isNought(got) {
					t.Errorf("Mul with nought as number %d: %v", place, got)
				}
			}
		}
	}
}

// checkDiv holds that q and r are what P2.3 and P2.4 say of a and b, which is not nought.
func checkDiv(t *testing.T, a, b *big.Int, q, r api.Whole) {
	t.Helper()
	if !mayBe(q) || !mayBe(r) {
		t.Fatalf("Div(%x, %x): %v, %v", a, b, q, r)
	}
	left := number(r)
	if b.Sign() > 0 && (left.Sign() < 0 || left.Cmp(b) >= 0) {
		t.Fatalf("Div(%x, %x) leaves %x", a, b, left)
	}
	if b.Sign() < 0 && (left.Sign() > 0 || left.Cmp(b) <= 0) {
		t.Fatalf("Div(%x, %x) leaves %x", a, b, left)
	}
	back := new(big.Int).Mul(number(q), b)
	if back.Add(back, left).Cmp(a) != 0 {
		t.Fatalf("Div(%x, %x): %x, %x; back: %x", a, b, number(q), left, back)
	}
}

func TestDiv(t *testing.T) { // P2.3, P2.4
	try := func(a, b api.Whole) {
		t.Helper()
		q, r, is := whole.Div(a, b)
		if number(b).Sign() == 0 {
			if is || !isNought(q) || !isNought(r) {
				t.Fatalf("Div(%v, nought): %v, %v, %v", a, q, r, is)
			}
			return
		}
		if !is {
			t.Fatalf("Div(%v, %v): false", a, b)
		}
		checkDiv(t, number(a), number(b), q, r)
		if back := whole.Add(whole.Mul(q, b), r); !whole.Same(back, a) {
			t.Fatalf("Div(%v, %v): %v, %v; back: %v", a, b, q, r, back)
		}
	}
	pairs(try)
	pairs(func(a, b api.Whole) { try(whole.Mul(a, b), b) }) // nothing is left
	smallPairs(func(a, b int) { try(whole.From(a), whole.From(b)) })
}

func TestDivOfSmall(t *testing.T) { // P2.3
	for _, c := range [][4]int{
		{7, 2, 3, 1}, {-7, 2, -4, 1}, {7, -2, -4, -1}, {-7, -2, 3, -1},
		{6, 3, 2, 0}, {-6, 3, -2, 0}, {6, -3, -2, 0}, {-6, -3, 2, 0},
		{0, 5, 0, 0}, {0, -5, 0, 0}, {1, 5, 0, 1}, {-1, 5, -1, 4}, {1, -5, -1, -4}, {-1, -5, 0, -1},
		{9, 1, 9, 0}, {9, -1, -9, 0}, {-9, 1, -9, 0}, {-9, -1, 9, 0},
		{math.MinInt64, math.MaxInt64, -2, math.MaxInt64 - 1}, {math.MaxInt64, math.MinInt64, -1, -1},
	} {
		q, r, is := whole.Div(whole.From(c[0]), whole.From(c[1]))
		if !is || !whole.Same(q, whole.From(c[2])) || !whole.Same(r, whole.From(c[3])) {
			t.Errorf("Div(%d, %d): %v, %v, %v", c[0], c[1], q, r, is)
		}
	}
	q, r, is := whole.Div(whole.From(math.MinInt64), whole.From(-1))
	if !is || !isNought(r) {
		t.Errorf("Div(-2^63, -1): %v, %v, %v", q, r, is)
	}
	expect(t, "Div(-2^63, -1)", q, new(big.Int).Lsh(big.NewInt(1), 63))
}

func TestDivByNought(t *testing.T) { // P2.3, R4
	for _, nought := range []api.Whole{{}, {M: []uint32{}}, of(true), of(false, 0), of(true, 0, 0)} {
		for _, a := range edges() {
			if q, r, is := whole.Div(a, nought); is || !isNought(q) || !isNought(r) {
				t.Errorf("Div(%v, %v): %v, %v, %v", a, nought, q, r, is)
			}
		}
	}
}

// call is one of the package's: all numbers that it answers, and all else.
type call struct {
	name string
	do   func(a, b api.Whole) ([]api.Whole, []int)
}

func one(is bool) int {
	if is {
		return 1
	}
	return 0
}

func calls() []call {
	return []call{
		{"Int", func(a, b api.Whole) ([]api.Whole, []int) { n, is := whole.Int(a); return nil, []int{n, one(is)} }},
		{"Make", func(a, b api.Whole) ([]api.Whole, []int) {
			return []api.Whole{whole.Make(a.Neg, a.M), whole.Make(b.Neg, b.M)}, nil
		}},
		{"Sign", func(a, b api.Whole) ([]api.Whole, []int) { return nil, []int{whole.Sign(a), whole.Sign(b)} }},
		{"Cmp", func(a, b api.Whole) ([]api.Whole, []int) { return nil, []int{whole.Cmp(a, b), whole.Cmp(a, a)} }},
		{"Same", func(a, b api.Whole) ([]api.Whole, []int) {
			return nil, []int{one(whole.Same(a, b)), one(whole.Same(a, a))}
		}},
		{"Neg", func(a, b api.Whole) ([]api.Whole, []int) { return []api.Whole{whole.Neg(a), whole.Neg(b)}, nil }},
		{"Add", func(a, b api.Whole) ([]api.Whole, []int) { return []api.Whole{whole.Add(a, b), whole.Add(a, a)}, nil }},
		{"Sub", func(a, b api.Whole) ([]api.Whole, []int) { return []api.Whole{whole.Sub(a, b), whole.Sub(a, a)}, nil }},
		{"Mul", func(a, b api.Whole) ([]api.Whole, []int) {
			return []api.Whole{whole.Mul(), whole.Mul(a), whole.Mul(a, b, a)}, nil
		}},
		{"Div", func(a, b api.Whole) ([]api.Whole, []int) {
			q, r, is := whole.Div(a, b)
			return []api.Whole{q, r}, []int{one(is)}
		}},
	}
}

func sameWhole(a, b api.Whole) bool { return a.Neg == b.Neg && slices.Equal(a.M, b.M) }

func sameLists(a, b []api.Whole) bool { return slices.EqualFunc(a, b, sameWhole) }

// TestMayNotBeIsTakenForMade hands every call numbers that may not be, and those that Make makes of their parts.
func TestMayNotBeIsTakenForMade(t *testing.T) { // the chapter's Words
	check := func(a, b api.Whole) {
		t.Helper()
		for _, c := range calls() {
			got, told := c.do(a, b)
			want, wanted := c.do(whole.Make(a.Neg, a.M), whole.Make(b.Neg, b.M))
			if !sameLists(got, want) || !slices.Equal(told, wanted) {
				t.Errorf("%s(%v, %v): %v %v; of those that may be: %v %v", c.name, a, b, got, told, want, wanted)
			}
		}
	}
	for _, a := range mayNot() {
		for _, b := range edges() {
			check(a, b)
			check(b, a)
		}
	}
}

// spoil changes all limbs of a number, and all that there is room for behind them.
func spoil(w api.Whole) {
	room := w.M[:cap(w.M)]
	for i := range room {
		room[i] ^= 0x5a5a5a5a
	}
}

func copies(l []api.Whole) []api.Whole {
	out := make([]api.Whole, len(l))
	for i, w := range l {
		out[i] = of(w.Neg, slices.Clone(w.M)...)
	}
	return out
}

func TestNothingIsShared(t *testing.T) { // R3, R5
	for _, a := range edges() {
		for _, b := range edges() {
			for _, c := range calls() {
				checkOwn(t, c, a, b)
			}
		}
	}
}

// checkOwn makes a call and holds that no change to what was handed in, or to a number that was answered, is seen
// in anything else; nor has the call written behind what was handed in.
func checkOwn(t *testing.T, c call, a, b api.Whole) {
	t.Helper()
	mine := []api.Whole{of(a.Neg, append(slices.Clone(a.M), 8, 8)...), of(b.Neg, append(slices.Clone(b.M), 9, 9)...)}
	was := copies(mine)
	do := func() []api.Whole {
		got, _ := c.do(of(a.Neg, mine[0].M[:len(a.M)]...), of(b.Neg, mine[1].M[:len(b.M)]...))
		return got
	}
	got := do()
	if !sameLists(mine, was) {
		t.Fatalf("%s(%v, %v) changed what was handed in", c.name, a, b)
	}
	want := copies(got)
	for i := range got {
		spoil(got[i])
		if !sameLists(mine, was) {
			t.Fatalf("%s(%v, %v): an answer shares memory with what was handed in", c.name, a, b)
		}
		if !sameLists(got[i+1:], want[i+1:]) {
			t.Fatalf("%s(%v, %v): two answers share memory", c.name, a, b)
		}
	}
	got = do()
	if !sameLists(got, want) {
		t.Fatalf("%s(%v, %v): %v, and then %v", c.name, a, b, want, got)
	}
	spoil(mine[0])
	spoil(mine[1])
	if !sameLists(got, want) {
		t.Fatalf("%s(%v, %v): what was handed in is kept in an answer", c.name, a, b)
	}
}

func TestMulLeavesItsList(t *testing.T) { // R3
	l := mayNot()
	was := copies(l)
	whole.Mul(l...)
	if !sameLists(l, was) {
		t.Error("Mul changed what was handed in")
	}
}
