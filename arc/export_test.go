package arc

import "volvelle/api"

// What is worked ahead of being cut: cutting would hide how much is lost.

func (c *Calc) Finer() *Calc {
	return c.finer()
}

func (c *Calc) Depth() int {
	return c.depth()
}

func (c *Calc) Halved(y, x api.Dyad) (api.Span, int) {
	return c.halved(y, x)
}

func (c *Calc) Arctangent(t api.Span) api.Span {
	return c.arctangent(t)
}
