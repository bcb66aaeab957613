package circ

import "volvelle/api"

// What is worked ahead of being cut: cutting would hide how much is lost.

func (c *Calc) Halved(x api.Dyad) (*Calc, api.Span, int) {
	return c.halved(x)
}

func (c *Calc) Series(square api.Span, odd int64) api.Span {
	return c.series(square, odd)
}

func (c *Calc) Lengths(square api.Span, odd int64) []int {
	return c.lengths(square, odd)
}

func (c *Calc) Doubled(cosine api.Span) api.Span {
	return c.doubled(cosine)
}

func (c *Calc) Depth() int {
	return c.depth()
}

func Floor(d api.Dyad) int64 {
	return floor(d)
}

func Ceiling(d api.Dyad) int64 {
	return ceiling(d)
}
