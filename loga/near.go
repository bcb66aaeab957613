package loga

import (
	"math/bits"

	"volvelle/api"
)

const wordBits = 64

// near encloses the logarithms of numbers near 1: that of x is twice the
// hyperbolic arctangent of x - 1 over x + 1. However near 1 a lone number is,
// what it is above 1 by is told ahead of being cut; of 1 itself all that is
// worked is 0.
func (c *Calc) near(x api.Span) api.Span {
	one := c.Num(1)
	z := c.Div(c.Sub(x, one), c.Add(x, one))
	return c.Scale(c.arctangent(z), 1)
}

// arctangent encloses the hyperbolic arctangents of z: z times the sum of all
// w^n over 2 n + 1, where w is z's square, which must be below 1/2.
//
// The sum is worked from its end: what is left out there, over the power of w
// that it begins with, lies from 0 to 1. What is worked at n is multiplied by w
// n times more, and so needs as many bits fewer.
func (c *Calc) arctangent(z api.Span) api.Span {
	square := c.Mul(z, z)
	step := -top(square)
	if step < 1 {
		c.Fail()
		return api.Span{}
	}
	all := c.P
	sum := c.Hull(c.Num(0), c.Num(1))
	for n := (all - 1) / step; n >= 0; n-- {
		c.P = all - n*step
		sum = c.Add(c.Mul(sum, c.Out(square)), c.Div(c.Num(1), c.Num(int64(2*n+1))))
	}
	return c.Mul(z, sum)
}

// top answers the least k with all of a right span below 2 to the k in size; a
// very low one of 0 alone.
func top(a api.Span) int {
	return max(topOf(a.Lo), topOf(a.Hi))
}

// topOf is top of a plain dyad.
func topOf(d api.Dyad) int {
	n := len(d.M)
	if n == 0 {
		return -4 * api.MaxExp
	}
	return d.E + n*wordBits - bits.LeadingZeros64(d.M[n-1])
}
