package atan_test

import (
	"math/rand"
	"testing"

	"pelorus/api"
	"pelorus/atan"
	"pelorus/iv"
	"pelorus/num"
	"pelorus/quot"
	"pelorus/sample"
)

// expectAngle fails the test unless there is an angle of a point, and it is the wanted one.
func expectAngle(t *testing.T, y, x api.Num, want api.Iv) {
	t.Helper()
	got, is := atan.Angle(y, x)
	if !is || got != want {
		t.Errorf("Angle(%v, %v): got %v, %v, want %v", y, x, got, is, want)
	}
}

// expectNoAngle fails the test unless there is no angle of two numbers.
func expectNoAngle(t *testing.T, y, x api.Num) {
	t.Helper()
	if got, is := atan.Angle(y, x); is || got != none() {
		t.Errorf("Angle(%v, %v): %v, %v", y, x, got, is)
	}
}

// TestAngleWrittenOut has angles as they were worked out by another program, and those of the opposite y.
func TestAngleWrittenOut(t *testing.T) { // P13.4, P13.5
	for _, c := range []struct {
		y, x int
		want api.Iv
	}{
		{1, 0, around(0xc90fdaa22168c234, -63, 1)},
		{1, 1, around(0xc90fdaa22168c234, -64, 1)},
		{1, -1, around(0x96cbe3f9990e91a6, -62, 2)},
		{3, 4, around(0xa4bc7d1934f70924, -64, 1)},
		{3, -4, around(0x9fe0bb5bd42affea, -62, 2)},
		{4, 3, around(0xed63382b0dda7b43, -64, 4)},
		{4, -3, around(0x8db70c975df22362, -62, 3)},
		{1, 3, around(0xa4bc7d1934f70923, -65, 2)},
		{1, -3, around(0xb4784afefac9e10f, -62, 2)},
		{3, 1, around(0x9fe0bb5bd42affea, -63, 3)},
		{3, -1, around(0xf23ef9e86ea6847b, -63, 5)},
		{7, -1000, around(0xc89d2afc1f95aa6b, -62, 2)},
		{1000, -7, around(0xc9f539ee250ef1c4, -63, 4)},
		{1000, 7, around(0xc82a7b561dc292a2, -63, 2)},
	} {
		expectAngle(t, num.Of(c.y), num.Of(c.x), c.want)
		expectAngle(t, num.Of(-c.y), num.Of(c.x), opposite(c.want))
	}
	ahead, behind := span(fin(true, 400<<55, -247), pos(400<<55, -247)), around(0xc90fdaa22168c233, -62, 3)
	for _, x := range []api.Num{num.Of(1), num.Of(5), power(-1), tiny(false), huge(false), pos(0xaaaaaaaaaaaaaaab, 7)} {
		expectAngle(t, api.Num{}, x, ahead)
		expectAngle(t, api.Num{}, minus(x), behind)
	}
}

// TestAngleAroundTheSeam has points to the left of nought, just below it, at it and just above it: the angle of all but
// the first ones is on the far end above nought.
func TestAngleAroundTheSeam(t *testing.T) { // P13.4
	behind := around(0xc90fdaa22168c233, -62, 3)
	for _, x := range []api.Num{num.Of(-1), num.Of(-3), power(5), power(-9), huge(false)} {
		x.Neg = true
		for _, y := range []api.Num{tiny(false), pos(full, minE), pos(3<<62, minE+7)} {
			expectAngle(t, y, x, behind)
			expectAngle(t, minus(y), x, opposite(behind))
		}
		expectAngle(t, api.Num{}, x, behind)
	}
}

func TestAngleAboveAndBelow(t *testing.T) { // P13.4
	for _, y := range tangents() {
		expectAngle(t, y, api.Num{}, aHalf)
		expectAngle(t, minus(y), api.Num{}, opposite(aHalf))
	}
}

func TestAngleOfNone(t *testing.T) { // P13.4, R4
	expectNoAngle(t, api.Num{}, api.Num{})
	for _, n := range sample.Row() {
		for _, far := range []api.Num{inf(false), inf(true)} {
			expectNoAngle(t, n, far)
			expectNoAngle(t, far, n)
		}
	}
	for _, bad := range sample.MayNot() {
		for _, n := range append(sample.Few(), bad) {
			expectNoAngle(t, n, bad)
			expectNoAngle(t, bad, n)
		}
	}
}

// point is one that is not nought.
type point struct{ y, x api.Num }

// sides are all points with the same distances from nought as a point above it and to the right has.
func sides(y, x api.Num) []point {
	return []point{{y, x}, {minus(y), x}, {y, minus(x)}, {minus(y), minus(x)}}
}

// places are points of all quadrants and on both axes: with few bits and with many, near and far.
func places() []point {
	var out []point
	for y := range 8 {
		for x := range 8 {
			if y > 0 || x > 0 {
				out = append(out, sides(num.Of(y), num.Of(x))...)
			}
		}
	}
	for _, m := range sample.Words() {
		for _, n := range sample.Words() {
			out = append(out, sides(pos(m, 3), pos(n, 3))...)
			out = append(out, sides(pos(m, 3), pos(n, 2))...)
		}
	}
	few := []api.Num{{}, tiny(false), pos(full, minE), pos(3<<62, -64), num.Of(1), num.Of(1e9), pos(full, maxE-1), huge(false)}
	for _, y := range few {
		for _, x := range few {
			if y != (api.Num{}) || x != (api.Num{}) {
				out = append(out, sides(y, x)...)
			}
		}
	}
	return out
}

func TestAngleOfPlaces(t *testing.T) { // P13.4
	for _, p := range places() {
		checkAngle(t, p.y, p.x)
	}
	for _, y := range sample.Few() {
		for _, x := range sample.Few() {
			checkAngle(t, y, x)
		}
	}
	r := rand.New(rand.NewSource(6))
	for range 1000 {
		checkAngle(t, sample.Num(r), sample.Num(r))
		checkAngle(t, fin(r.Intn(2) == 0, sample.Word(r), r.Intn(4)), fin(r.Intn(2) == 0, sample.Word(r), r.Intn(4)))
	}
}

// TestAngleOfFarQuotients has points whose quotient is beyond the Huge, and those of which it is between nought and the
// Tiny: the angle is between those of what it is to both sides, as infinite ones and nought have angles, too.
func TestAngleOfFarQuotients(t *testing.T) { // P13.4
	for _, c := range []point{
		{huge(false), power(-1)}, {huge(false), tiny(false)}, {huge(false), pos(full-1, -64)}, {power(200), tiny(false)}, {pos(full, 77), pos(full, minE+5)},
	} {
		if up, down := quot.Div(c.y, c.x, true), quot.Div(c.x, c.y, false); up != inf(false) || down != (api.Num{}) {
			t.Fatalf("%v, %v: quotients %v, %v", c.y, c.x, up, down)
		}
		for i, p := range sides(c.y, c.x) {
			checkAngle(t, p.y, p.x)
			turn := []api.Iv{aHalf, opposite(aHalf)}[i%2]
			if got := angleOf(t, p); !iv.Within(turn, got) {
				t.Errorf("Angle(%v, %v): %v, without %v", p.y, p.x, got, turn)
			}
		}
		for _, p := range sides(c.x, c.y) {
			checkAngle(t, p.y, p.x)
			checkExact(t, "Angle", angleOf(t, p), p.y, p.x)
		}
	}
}

// angleOf is Angle of a point; it fails the test if there is none.
func angleOf(t *testing.T, p point) api.Iv {
	t.Helper()
	got, is := atan.Angle(p.y, p.x)
	if !is {
		t.Fatalf("Angle(%v, %v): none", p.y, p.x)
	}
	return got
}
