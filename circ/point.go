package circ

import (
	"math/bits"
	"slices"

	"volvelle/api"
)

// spareBits are worked beyond the calc's own, and beyond those that halvings to
// come near 0 cost.
const spareBits = 64

// sinAt encloses the sine of x: x times its sine over it, so that it is narrow
// next to its own size however near 0 it is.
func (c *Calc) sinAt(x api.Dyad) api.Span {
	point := c.Point(x)
	switch {
	case isZero(x):
		return point
	case topOf(x) <= c.P-api.MaxExp:
		return c.step(x)
	}
	in, square, halvings := c.halved(x)
	ratio, cosine := in.series(square, 1), in.series(square, 0)
	for range halvings {
		ratio, cosine = in.Mul(ratio, cosine), in.doubled(cosine)
	}
	c.heed(in)
	return c.Mul(point, ratio)
}

// cosAt encloses the cosine of x.
func (c *Calc) cosAt(x api.Dyad) api.Span {
	if isZero(x) {
		return c.Num(1)
	}
	in, square, halvings := c.halved(x)
	cosine := in.series(square, 0)
	for range halvings {
		cosine = in.doubled(cosine)
	}
	c.heed(in)
	return c.Out(cosine)
}

// step answers the numbers from x to the next one towards 0, of an x that stands
// so near the least exponent that one with all the calc's bits would need a
// lesser one. The cube of x is far less than the step.
func (c *Calc) step(x api.Dyad) api.Span {
	unit := c.Scale(c.Num(1), -api.MaxExp)
	if !x.Neg {
		unit = c.Neg(unit)
	}
	return c.Hull(c.Point(x), c.Add(c.Point(x), unit))
}

// heed makes the calc bad, if a finer one went bad.
func (c *Calc) heed(in *Calc) {
	if in.Bad {
		c.Fail()
	}
}

// halved answers a finer calc, and the square of x, halved so often that it is
// below 2 to the -depth. Pi, by which x might be brought near 0, isn't told to
// more bits than a calc may have, which is too few for a great x.
//
// Each doubling back makes what is lost of a cosine, and of a sine, 4 times as
// much at most, and loses less than 16 units itself: with the 2^10 units that the
// series lose at most, and up to depth and 17 doublings, all is less than 2^45
// times as much as 2 to the twice depth, in units of the last of the finer bits.
func (c *Calc) halved(x api.Dyad) (in *Calc, square api.Span, halvings int) {
	depth := c.depth()
	in = &Calc{}
	in.P = c.P + spareBits + 2*depth
	if topOf(x) < -in.P {
		// The square may need a lesser exponent than there is.
		return in, in.Hull(in.Num(0), in.Scale(in.Num(1), -2*in.P)), 0
	}
	halvings = max(topOf(x)+depth, 0)
	small := in.Out(in.Scale(in.Point(x), -halvings))
	return in, in.Mul(small, small), halvings
}

// depth answers the k with which numbers below 2 to the -k are small enough for
// the series: about there doublings take as long as the terms that they spare.
func (c *Calc) depth() int {
	k := 1
	for 8*k*k < c.P {
		k++
	}
	return k
}

// doubled answers the cosines of twice the numbers whose cosines are told.
func (c *Calc) doubled(cosine api.Span) api.Span {
	return c.Sub(c.Scale(c.Mul(cosine, cosine), 1), c.Num(1))
}

// series encloses the sum of all (-w)^n over (2 n + odd)!, of squares w from 0
// to 1/4: with an odd of 0 that is the cosine of w's root, with 1 its sine over
// it.
//
// The sum is worked from its end: what is left out there, over the term that it
// begins with, lies from 0 to 1, as terms fall and every other one is taken
// away. What is worked at n is multiplied by the share of that term, and so needs
// as many bits fewer. Each n loses 2 units and some at most; there are fewer than
// 2^8 of them.
func (c *Calc) series(w api.Span, odd int64) api.Span {
	sum := c.Hull(c.Num(0), c.Num(1))
	for n, left := range slices.Backward(c.lengths(w, odd)) {
		c.P = left
		share := c.Div(c.Mul(sum, c.Out(w)), c.Num(divisor(n, odd)))
		sum = c.Sub(c.Num(1), share)
	}
	return sum
}

// lengths answers how many bits are needed at each n.
func (c *Calc) lengths(w api.Span, odd int64) []int {
	var l []int
	for left := c.P; left > 0; {
		gain := bits.Len64(uint64(divisor(len(l), odd))) - 1
		l = append(l, left)
		left -= gain - topOf(w.Hi)
	}
	return l
}

// divisor answers by what more the term behind the n-th is divided.
func divisor(n int, odd int64) int64 {
	k := 2*int64(n) + odd + 1
	return k * (k + 1)
}
