package arc

import "volvelle/api"

// spareBits are worked beyond the calc's own. Less than 2^11 units of their last
// bit are lost, next to the size of what is worked: less than 2^4 by each halving
// and 2^3 by each term of the series, and there are up to depth and 2, and fewer
// than 2^7, of these.
const spareBits = 32

// angleAt encloses the angle of the point (x, y). It is halved so often that the
// series of the arctangent is short, and doubled back as it is. Halves take sums
// and roots of numbers that aren't below 0, so that nothing is lost next to the
// angle's own size; and no pi, which isn't told to more bits than a calc may
// have.
func (c *Calc) angleAt(y, x api.Dyad) api.Span {
	switch {
	case isZero(y):
		// To the right, as others on the axis aren't let through.
		return c.Num(0)
	case y.Neg:
		return c.Neg(c.angleAt(size(y), x))
	}
	in := c.finer()
	cotangent, halvings := in.halved(y, x)
	small := in.arctangent(in.Div(in.Num(1), cotangent))
	return c.from(in, in.Scale(small, halvings))
}

// finer answers a calc with spare bits.
func (c *Calc) finer() *Calc {
	in := &Calc{}
	in.P = c.P + spareBits
	return in
}

// from answers what a finer calc came to, outward.
func (c *Calc) from(in *Calc, a api.Span) api.Span {
	if in.Bad {
		c.Fail()
	}
	return c.Out(a)
}

// depth answers the k with which arctangents of numbers below 2 to the -k are
// left to the series: about there a halving takes as long as the terms that it
// spares.
func (c *Calc) depth() int {
	k := 1
	for 8*k*k < c.P {
		k++
	}
	return k
}

// halved encloses the cotangent of the angle of (x, y), of a y above 0, halved so
// often that it isn't below 2 to the depth, and answers how often. To the left of
// the axis of y the first half is worked from the point at the other side of that
// axis: half of the angle there, and half of this one, are a quarter of a turn
// together.
func (c *Calc) halved(y, x api.Dyad) (cotangent api.Span, halvings int) {
	cotangent = c.Div(c.Point(size(x)), c.Point(y))
	if x.Neg {
		cotangent = c.Div(c.Num(1), c.halfway(cotangent))
		halvings++
	}
	for depth := c.depth(); topOf(cotangent.Lo) <= depth && !c.Bad; halvings++ {
		cotangent = c.halfway(cotangent)
	}
	return cotangent, halvings
}

// halfway encloses the cotangents of half the angles whose cotangents are told:
// each with the root of 1 and its square. It is at least twice as great.
func (c *Calc) halfway(cotangent api.Span) api.Span {
	square := c.Mul(cotangent, cotangent)
	return c.Add(cotangent, c.Root(c.Add(c.Num(1), square)))
}

// arctangent encloses the arctangents of numbers t above 0, and 1/2 at most: t
// times the sum of all (-w)^n over 2 n + 1, where w is t's square.
//
// The sum is worked from its end: what is left out there, over the power of w
// that it begins with, lies from 0 to 1, as terms fall and every other one is
// taken away. What is worked at n is multiplied by w n times more, and so needs
// as many bits fewer.
func (c *Calc) arctangent(t api.Span) api.Span {
	square := c.Mul(t, t)
	step := -topOf(square.Hi)
	all := c.P
	sum := c.Hull(c.Num(0), c.Num(1))
	for n := (all - 1) / step; n >= 0; n-- {
		c.P = all - n*step
		sum = c.Sub(c.Div(c.Num(1), c.Num(int64(2*n+1))), c.Mul(sum, c.Out(square)))
	}
	return c.Mul(t, sum)
}
