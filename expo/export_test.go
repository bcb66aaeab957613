package expo

import "volvelle/api"

// What is worked ahead of being cut: cutting would hide how much is lost.

func (c *Calc) Power(x api.Dyad) api.Span {
	return c.power(x)
}

func (c *Calc) Squares(x api.Dyad, odd uint64) api.Span {
	return c.squares(x, odd)
}
