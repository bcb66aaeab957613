package part

import (
	"volvelle/api"
	"volvelle/arc"
)

// desk: a calc that has more bits than the one that is handed in, and the real
// expressions that the components are made of.
type desk struct {
	arc.Calc
}

func deskFor(p int) *desk {
	d := &desk{}
	d.P = p + spareBits
	return d
}

// components encloses both components.
func (d *desk) components(tag int, p place) (first, second api.Span) {
	x, y := d.Point(p.x), d.Point(p.y)
	switch tag {
	case api.Abs:
		return d.distance(p.x, p.y), d.Num(0)
	case api.Arg:
		return d.angle(p.x, p.y, p.left, p.below), d.Num(0)
	case api.Conj:
		return x, d.Neg(y)
	case api.Proj:
		return x, y
	case api.Mul:
		return d.product(p)
	case api.Div:
		return d.quotient(p)
	case api.Sqrt:
		return d.root(p)
	case api.Exp:
		return d.Mul(d.Exp(x), d.Cos(y)), d.Mul(d.Exp(x), d.Sin(y))
	case api.Log:
		return d.Scale(d.logarithm(squares(p.x, p.y)), -1), d.angle(p.x, p.y, p.left, p.below)
	case api.Sin:
		return d.Mul(d.Sin(x), d.Cosh(y)), d.Mul(d.Cos(x), d.Sinh(y))
	case api.Cos:
		return d.Mul(d.Cos(x), d.Cosh(y)), d.Neg(d.Mul(d.Sin(x), d.Sinh(y)))
	case api.Tan:
		return d.tangent(x, y)
	case api.Sinh:
		return d.Mul(d.Sinh(x), d.Cos(y)), d.Mul(d.Cosh(x), d.Sin(y))
	case api.Cosh:
		return d.Mul(d.Cosh(x), d.Cos(y)), d.Mul(d.Sinh(x), d.Sin(y))
	case api.Tanh:
		return swapped(d.tangent(y, x))
	}
	return d.inverse(tag, p)
}

// inverse encloses the components of an inverse of the functions of angles. A
// hyperbolic one is the other one of the point whose x and y are changed over.
func (d *desk) inverse(tag int, p place) (first, second api.Span) {
	switch tag {
	case api.Asin:
		e := d.ellipse(p.x, p.y)
		return d.arcsine(e), d.signed(d.area(e), p.below)
	case api.Acos:
		e := d.ellipse(p.x, p.y)
		return d.arccosine(e), d.signed(d.area(e), !p.below)
	case api.Atan:
		return d.halfAngle(p.x, p.y, p.left), d.approach(p.y, p.x)
	case api.Asinh:
		e := d.ellipse(p.y, p.x)
		return d.signed(d.area(e), p.left), d.arcsine(e)
	case api.Acosh:
		e := d.ellipse(p.x, p.y)
		return d.area(e), d.signed(d.arccosine(e), p.below)
	}
	return d.approach(p.x, p.y), d.halfAngle(p.y, p.x, p.below)
}

func swapped(a, b api.Span) (api.Span, api.Span) {
	return b, a
}

// signed encloses the numbers of a span, or those on the other side of 0.
func (d *desk) signed(a api.Span, below bool) api.Span {
	if below {
		return d.Neg(a)
	}
	return a
}
