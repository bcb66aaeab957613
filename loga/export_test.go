package loga

import "volvelle/api"

// What is worked ahead of being cut: cutting would hide how much is lost.

func (c *Calc) Near(x api.Span) api.Span {
	return c.near(x)
}

func (c *Calc) Arctangent(z api.Span) api.Span {
	return c.arctangent(z)
}

func (c *Calc) Raised(x api.Span) (api.Span, int) {
	return c.raised(x)
}

func (c *Calc) Far(x api.Span) api.Span {
	return c.far(x)
}

func (c *Calc) Finer() *Calc {
	return c.finer()
}

func (c *Calc) Depth() int {
	return c.depth()
}

func (c *Calc) Guess(x api.Span) api.Dyad {
	return c.guess(x)
}
