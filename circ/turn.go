package circ

import (
	"volvelle/api"
	"volvelle/dyad"
)

// How many quarters of a turn a number is moved ahead, so that the functions are
// 1 where it comes to an even number of half turns, and -1 where to an odd one.
// For Cos a whole turn is as good as none, but brings numbers that are nearly 0,
// whose quotients needn't be plain, away from it.
const (
	sinAhead = 3
	cosAhead = 4
)

// turned answers the hull of what comes of the ends of a and of what the function
// is where it turns in a. A turn that lies next to an end may be taken for one
// that is inside: with half of the bits, and some more, it is so near that the
// function is 1 or -1 there but for far less than its last bit.
func (c *Calc) turned(a, ends api.Span, ahead int64) api.Span {
	in := &Calc{}
	in.P = c.P/2 + spareBits
	pi := in.Pi()
	moved := in.Add(a, in.Mul(in.Num(ahead), in.Scale(pi, -1)))
	turns := in.Div(moved, pi)
	c.heed(in)
	first, last := ceiling(turns.Lo), floor(turns.Hi)
	for n := first; n <= min(last, first+1); n++ {
		ends = c.Hull(ends, c.Num(1-2*(n&1)))
	}
	return ends
}

// floor answers the greatest whole number that isn't above d, of a plain d below
// 2^62 in size.
func floor(d api.Dyad) int64 {
	top := topOf(d)
	switch {
	case top < 1 && d.Neg:
		return -1
	case top < 1:
		return 0
	}
	// Numbers of as many bits as stand ahead of the point are whole here.
	whole, _ := dyad.Cut(d, top, false)
	n := int64(whole.M[0]) << whole.E
	if d.Neg {
		return -n
	}
	return n
}

// ceiling answers the least whole number that isn't below d.
func ceiling(d api.Dyad) int64 {
	less, _ := dyad.Neg(d)
	return -floor(less)
}
