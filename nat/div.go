package nat

import "math/bits"

// DivMod answers a over b, cut, what is left, and true; nil, nil and false if
// b is 0.
func DivMod(a, b []uint64) ([]uint64, []uint64, bool) {
	a, b = view(a), view(b)
	switch {
	case len(b) == 0:
		return nil, nil, false
	case Cmp(a, b) < 0:
		return nil, Trim(a), true
	case len(b) == 1:
		quotient, rest := divWord(a, b[0])
		return quotient, view([]uint64{rest}), true
	}
	quotient, rest := divLong(a, b)
	return quotient, rest, true
}

// divWord divides by a single word that isn't 0.
func divWord(a []uint64, b uint64) (quotient []uint64, rest uint64) {
	quotient = make([]uint64, len(a))
	for i := len(a) - 1; i >= 0; i-- {
		quotient[i], rest = bits.Div64(rest, a[i], b)
	}
	return view(quotient), rest
}

// divLong divides by two words or more, one word of the quotient at a time.
// Both numbers are raised until the divisor's highest bit is 1: only then are
// the guesses of divStep near enough.
func divLong(a, b []uint64) (quotient, rest []uint64) {
	n := len(b)
	shift := bits.LeadingZeros64(b[n-1])
	divisor := raise(b, shift)
	left := make([]uint64, len(a)+1)
	copy(left, raise(a, shift))
	quotient = make([]uint64, len(a)-n+1)
	for i := len(quotient) - 1; i >= 0; i-- {
		quotient[i] = divStep(left[i:i+n+1], divisor)
	}
	return view(quotient), lower(view(left), shift)
}

// divStep divides left, which has one word more than the divisor and whose
// quotient is a single word: it answers that word, and leaves the rest in left.
func divStep(left, divisor []uint64) uint64 {
	n := len(divisor)
	q := guess(left[n-2:], divisor[n-2:])
	borrow := subTimes(left[:n], divisor, q)
	if left[n] < borrow {
		// The guess was one too high; what is carried out of the sum and the
		// borrow that left[n] doesn't cover cancel each other.
		q--
		addInto(left[:n], divisor)
	}
	left[n] = 0
	return q
}

// guess answers the word that the quotient seems to be by the three highest
// words of what is left and the two highest of the divisor: never less than
// the true one, and greater by one at most.
func guess(left, divisor []uint64) uint64 {
	low, high := divisor[0], divisor[1]
	if left[2] >= high {
		return ^uint64(0)
	}
	q, rest := bits.Div64(left[2], left[1], high)
	over, under := bits.Mul64(q, low)
	for over > rest || over == rest && under > left[0] {
		q--
		rest += high
		if rest < high {
			// rest no longer fits a word, so it is above all of q times low.
			break
		}
		over, under = bits.Mul64(q, low)
	}
	return q
}

// subTimes takes x times b from the words of rest, as many as b has, and
// answers what is borrowed beyond them.
func subTimes(rest, b []uint64, x uint64) uint64 {
	rest = rest[:len(b)]
	var borrow uint64
	for i, y := range b {
		// high never overflows, as in addTimes.
		high, low := bits.Mul64(x, y)
		low, over := bits.Add64(low, borrow, 0)
		high, _ = bits.Add64(high, 0, over)
		rest[i], over = bits.Sub64(rest[i], low, 0)
		borrow, _ = bits.Add64(high, 0, over)
	}
	return borrow
}
