package nat

// Root is the greatest number whose square is not greater; is it the root itself?
func Root(a []uint32) ([]uint32, bool) {
	a = cut(a)
	if len(a) == 0 {
		return nil, true
	}
	// The first guess is a power of two above the root. As long as a guess is above it, the mean of the guess and
	// of a divided by it is a lesser guess that is not below the root, rounded down; the first guess for which it
	// is no lesser one is the root.
	guess := Trim(raised([]uint32{1}, (Len(a)+1)/2))
nearer:
	part, _, _ := Div(a, guess)
	mean := Shr(Add(guess, part), 1)
	if Cmp(mean, guess) < 0 {
		guess = mean
		goto nearer
	}
	return guess, Cmp(Mul(guess, guess), a) == 0
}
