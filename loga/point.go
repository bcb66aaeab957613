package loga

import (
	"math/bits"

	"volvelle/api"
	"volvelle/dyad"
)

const (
	// spareBits are worked beyond the calc's own.
	spareBits = 32

	// farTop is the least top, either way, of numbers that are far from 1.
	farTop = 32

	// From manyBits on a guess is worth a power of e of its own.
	manyBits = 1024

	// guessTop bits of such a guess stand ahead of the point, or aren't sure: a
	// logarithm of a number in reach is below 2^14.
	guessTop = 18

	// roughBits of a guess without such a power stand behind the point.
	roughBits = 48
)

// logAt encloses the logarithm of x. Near 1 the series tells it; of another
// number it is worked of a power that is far from 1, by powers of e. The
// logarithm of 2, by which a number might be brought near 1, isn't told to more
// bits than a calc may have, which is too few where the calc has as many.
func (c *Calc) logAt(x api.Dyad) api.Span {
	in := c.finer()
	point := in.Point(x)
	if top(in.Sub(point, in.Num(1))) <= -c.depth() {
		return c.from(in, in.near(point))
	}
	far, squares := in.raised(point)
	return c.Scale(c.far(far), -squares)
}

// depth answers the k with which numbers that are less than 2 to the -k away
// from 1 are near it: about there the series takes as long as a power of e.
func (c *Calc) depth() int {
	k := 1
	for 3*k*k < c.P {
		k++
	}
	return k
}

// finer answers a calc with spare bits, and those that are lost where a number
// just not near 1 is raised.
func (c *Calc) finer() *Calc {
	in := &Calc{}
	in.P = c.P + spareBits + c.depth()
	return in
}

// from answers what a finer calc came to, outward.
func (c *Calc) from(in *Calc, a api.Span) api.Span {
	if in.Bad {
		c.Fail()
	}
	return c.Out(a)
}

// raised answers a power of x that is far from 1, and how often x was squared.
// Each square doubles what was lost ahead of it; as x isn't near 1, there are
// depth and 6 of them at most.
func (c *Calc) raised(x api.Span) (far api.Span, squares int) {
	far = c.Out(x)
	for max(top(far), -top(far)) < farTop {
		far = c.Mul(far, far)
		squares++
	}
	return far, squares
}

// far encloses the logarithms of numbers that are far from 1: over e to the
// guess they are near 1. That power is told by no more bits than the calc's own,
// as there may be no more; next to a logarithm above 16 what it lacks is little.
func (c *Calc) far(x api.Span) api.Span {
	in := c.finer()
	guess := in.Point(c.guess(x))
	rest := in.Mul(x, c.Exp(in.Neg(guess)))
	return c.from(in, in.Add(guess, in.near(rest)))
}

// guess answers a number near the logarithms of x. How near it is tells how long
// the series takes; that what is answered holds them doesn't hang on it.
func (c *Calc) guess(x api.Span) api.Dyad {
	if c.P < manyBits {
		return rough(x.Lo)
	}
	few := &Calc{}
	few.P = c.P/8 + guessTop
	return few.far(x).Lo
}

// rough answers a number near the logarithm of x, which is above 0 and in reach.
// The digits of its logarithm to the base 2 are told one by one: the next one is
// 1, if the square of what is left is 2 at least.
func rough(x api.Dyad) api.Dyad {
	cut, _ := dyad.Cut(x, wordBits, false)
	var left uint64
	for _, word := range cut.M {
		left = word << bits.LeadingZeros64(word)
	}
	digits := int64(topOf(x) - 1)
	for range roughBits {
		digits *= 2
		high, low := bits.Mul64(left, left)
		left = high<<1 | low>>(wordBits-1)
		if high>>(wordBits-1) == 1 {
			digits++
			left = high
		}
	}
	// The logarithm of 2, times 2^64.
	const ln2 = 0xB17217F7D1CF79AC
	size, _ := bits.Mul64(uint64(max(digits, -digits)), ln2)
	y, _ := dyad.Make(digits < 0, []uint64{size}, -roughBits)
	return y
}
