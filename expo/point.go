package expo

import (
	"volvelle/api"
	"volvelle/nat"
)

// Numbers whose top is nearTop at most are near 0: e to the x, and to the -x,
// are so near each other there that their difference tells too little.
const nearTop = -16

// expAt encloses e to the x.
func (c *Calc) expAt(x api.Dyad) api.Span {
	switch {
	case isZero(x):
		return c.Num(1)
	case x.Neg:
		return c.Div(c.Num(1), c.power(size(x)))
	}
	return c.Out(c.power(x))
}

// sinhAt encloses the hyperbolic sine of x.
func (c *Calc) sinhAt(x api.Dyad) api.Span {
	point := c.Point(x)
	switch {
	case isZero(x):
		return point
	case x.Neg:
		return c.Neg(c.sinhAt(size(x)))
	case top(x) <= c.P-api.MaxExp:
		// A number of all the bits that the calc has would need a lesser
		// exponent than there is. The cube of x is far less than the step.
		return c.Hull(point, c.Add(point, c.Scale(c.Num(1), -api.MaxExp)))
	case top(x) <= nearTop:
		return c.Mul(point, c.squares(x, 1))
	}
	in := c.finer()
	power := c.power(x)
	return c.half(in, in.Sub(power, in.Div(in.Num(1), power)))
}

// coshAt encloses the hyperbolic cosine of x. Near 0 the powers would leave a
// little below 1.
func (c *Calc) coshAt(x api.Dyad) api.Span {
	x = size(x)
	switch {
	case isZero(x):
		return c.Num(1)
	case top(x) <= nearTop:
		return c.Out(c.squares(x, 0))
	}
	in := c.finer()
	power := c.power(x)
	return c.half(in, in.Add(power, in.Div(in.Num(1), power)))
}

// finer answers a calc with spare bits.
func (c *Calc) finer() *Calc {
	in := &Calc{}
	in.P = c.P + spareBits
	return in
}

// half answers half of what the finer calc came to, outward.
func (c *Calc) half(in *Calc, a api.Span) api.Span {
	if in.Bad {
		c.Fail()
	}
	return c.Out(c.Scale(a, -1))
}

// top answers the least k with x below 2 to the k in size, of an x that isn't 0.
func top(x api.Dyad) int {
	return x.E + nat.Bits(x.M)
}
