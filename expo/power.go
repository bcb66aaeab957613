package expo

import (
	"volvelle/api"
	"volvelle/dyad"
	"volvelle/nat"
)

const (
	// spareBits are worked beyond the calc's own.
	spareBits = 64

	// sureBits of them are sure in the end: series and squares lose less than
	// 2^18 units, as told where they are summed and squared.
	sureBits = 32
)

// power encloses e to the x, of an x above 0 in reach, by more bits than the
// calc has. x is halved until the series is short, and what comes of it is
// squared as often: the logarithm of 2, by which it might be made small, isn't
// told to more bits than a calc may have, which is too few for a great x.
//
// Each square doubles what is lost relatively, and loses less than 2 units
// itself, so that all comes to less than what the series lost and 2 units, times
// 2 to the halvings: as many bits are worked more.
func (c *Calc) power(x api.Dyad) api.Span {
	halvings := max(top(x)+c.depth(), 0)
	bits := c.P + spareBits + halvings
	m := termSum(shifted(x.M, x.E-halvings+bits), bits, func(n uint64) uint64 { return n })
	e := -bits
	for range halvings {
		m = nat.Mul(m, m)
		drop := nat.Bits(m) - bits
		m, e = nat.Shr(m, drop), 2*e+drop
	}
	return c.from(m, e)
}

// depth answers the k with which numbers below 2 to the -k are small enough for
// the series: about as many squares are worked then as products of terms, which
// are half as long.
func (c *Calc) depth() int {
	k := 1
	for 2*k*k < c.P {
		k++
	}
	return k
}

// squares encloses, of an x near 0, the sum of all x^(2 n) over (2 n + odd)!:
// with an odd of 0 that is its hyperbolic cosine, with 1 its hyperbolic sine
// over x.
func (c *Calc) squares(x api.Dyad, odd uint64) api.Span {
	bits := c.P + spareBits
	square := shifted(nat.Mul(x.M, x.M), 2*x.E+bits)
	m := termSum(square, bits, func(n uint64) uint64 { return (2*n + odd) * (2*n + odd - 1) })
	return c.from(m, -bits)
}

// termSum answers the sum of terms of which the first is 1, and each n-th one
// behind it is the one ahead of it times z over divisor(n), in units of 2 to the
// -bits, cut: z is below 1/2, and divisor(n) isn't below n.
//
// Nothing is greater than it should be. A term is less than 4 units too low:
// the product loses less than 1 by z, 1 where it is cut, and what was lost ahead;
// the quotient lets a divisor's share of these stay, and loses less than 1. The
// terms left out are less than twice the first of them, so less than 8 units.
// There are fewer than 2^14 terms, one for each bit at most: less than 2^17
// units are lost in all.
func termSum(z []uint64, bits int, divisor func(n uint64) uint64) []uint64 {
	term := nat.Shl([]uint64{1}, bits)
	sum := term
	for n := uint64(1); len(term) > 0; n++ {
		term = nat.Shr(nat.Mul(term, z), bits)
		term, _, _ = nat.DivMod(term, []uint64{divisor(n)})
		sum = nat.Add(sum, term)
	}
	return sum
}

// from answers the span from m, times 2 to the e, to what is greater by all that
// may have been lost.
func (c *Calc) from(m []uint64, e int) api.Span {
	lost := nat.Shl([]uint64{1}, nat.Bits(m)-c.P-sureBits)
	return c.Hull(c.number(m, e), c.number(nat.Add(m, lost), e))
}

// number answers m times 2 to the e alone.
func (c *Calc) number(m []uint64, e int) api.Span {
	d, ok := dyad.Make(false, m, e)
	if !ok {
		c.Fail()
	}
	return c.Point(d)
}

// shifted answers m times 2 to the n, cut.
func shifted(m []uint64, n int) []uint64 {
	if n < 0 {
		return nat.Shr(m, -n)
	}
	return nat.Shl(m, n)
}
