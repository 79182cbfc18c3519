package sample

import "pelorus/api"

// Span is the interval from one number to another one, whether it may be or not.
func Span(lo, hi api.Num) api.Iv { return api.Iv{Lo: lo, Hi: hi} }

// None is the empty interval.
func None() api.Iv { return api.Iv{Empty: true} }

// IvMayBe tells whether an interval may be.
func IvMayBe(x api.Iv) bool {
	if x.Empty {
		return x == None()
	}
	if !MayBe(x.Lo) || !MayBe(x.Hi) || x.Lo == Inf(false) || x.Hi == Inf(true) {
		return false
	}
	return !Less(x.Hi, x.Lo)
}

// Ivs are intervals that may be: the empty one, and those from each of few numbers to each of them.
func Ivs() []api.Iv {
	out := []api.Iv{None()}
	for i, lo := range Few() {
		for _, hi := range Few()[i:] {
			if lo != Inf(false) && hi != Inf(true) {
				out = append(out, Span(lo, hi))
			}
		}
	}
	return out
}

// FewIvs are intervals of each kind: none, all, points, with ends that are infinite, nought, on both sides of it.
func FewIvs() []api.Iv {
	one, three := Power(0), Pos(3<<62, -62)
	return []api.Iv{
		None(), Span(Inf(true), Inf(false)), {}, Span(one, one),
		Span(Minus(three), Minus(one)), Span(Minus(one), three), Span(one, three),
		Span(api.Num{}, one), Span(Minus(three), api.Num{}),
		Span(three, Inf(false)), Span(Inf(true), Minus(one)), Span(api.Num{}, Inf(false)),
		Span(Huge(true), Huge(false)), Span(Tiny(true), Tiny(false)), Span(Tiny(false), Huge(false)),
	}
}

// IvMayNot are intervals that may not be, in each of the ways.
func IvMayNot() []api.Iv {
	one, less := Power(0), Minus(Power(0))
	out := []api.Iv{Span(Inf(false), Inf(false)), Span(Inf(true), Inf(true)), Span(Inf(false), Inf(true))}
	for _, n := range Few() {
		if n != (api.Num{}) {
			out = append(out, api.Iv{Empty: true, Lo: n}, api.Iv{Empty: true, Hi: n}, api.Iv{Empty: true, Lo: n, Hi: n})
		}
		if n.Kind != api.Inf {
			out = append(out, Span(Inf(false), n), Span(n, Inf(true)))
		}
	}
	few := Few()
	for i, lo := range few {
		for _, hi := range few[:i] {
			out = append(out, Span(lo, hi))
		}
	}
	for _, bad := range MayNot() {
		out = append(out, Span(bad, one), Span(less, bad), Span(bad, bad), Span(bad, api.Num{}), Span(api.Num{}, bad))
		out = append(out, Span(bad, Inf(false)), Span(Inf(true), bad))
		out = append(out, api.Iv{Empty: true, Lo: bad}, api.Iv{Empty: true, Hi: bad})
	}
	return out
}
