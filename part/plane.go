package part

import "volvelle/api"

// distance encloses that of the point (x, y) from 0.
func (d *desk) distance(x, y api.Dyad) api.Span {
	return d.Root(d.Point(squares(x, y)))
}

// angle encloses that of the point (x, y). On the axis of x it is 0, or, to the
// left, pi on the side that is told.
func (d *desk) angle(x, y api.Dyad, left, below bool) api.Span {
	switch {
	case !isZero(y):
		return d.Atan2(d.Point(y), d.Point(x))
	case !left:
		return d.Num(0)
	}
	return d.signed(d.Pi(), below)
}

func (d *desk) logarithm(a api.Dyad) api.Span {
	return d.Log(d.Point(a))
}

// logarithmOver encloses the logarithms of 1 and a number of the span, none of
// which is below 0. Those of two lone numbers are narrow next to their own sizes,
// which those of a span needn't be.
func (d *desk) logarithmOver(a api.Span) api.Span {
	return d.Hull(d.logarithm(sum(power(0), a.Lo)), d.logarithm(sum(power(0), a.Hi)))
}

func (d *desk) product(p place) (first, second api.Span) {
	across := difference(product(p.x, p.u), product(p.y, p.v))
	up := sum(product(p.x, p.v), product(p.y, p.u))
	return d.Point(across), d.Point(up)
}

func (d *desk) quotient(p place) (first, second api.Span) {
	across := sum(product(p.x, p.u), product(p.y, p.v))
	up := difference(product(p.y, p.u), product(p.x, p.v))
	by := d.Point(squares(p.u, p.v))
	return d.Div(d.Point(across), by), d.Div(d.Point(up), by)
}

// root encloses both components of the root. The greater one is worked by a sum,
// and the other one from it: both times each other are half of y.
//
// Where one of them has an end, so has the distance r, and with fewer bits than
// the spare ones, so that nothing of both is cut. For take x and y without their
// common 2s, as whole numbers. If y is odd, the sum of r and x's size divides y²,
// of 106 bits. Else (r - x) / 2 and (r + x) / 2, which are r together, times each
// other are a quarter of y², and differ by x, which is odd: the one that is odd
// has 106 bits at most, and the other one lies less than 2^53 from it.
func (d *desk) root(p place) (first, second api.Span) {
	twice := d.Add(d.distance(p.x, p.y), d.Point(size(p.x)))
	greater, lesser := d.Root(d.Scale(twice, -1)), d.Num(0)
	if !isZero(p.y) {
		lesser = d.Div(d.Scale(d.Point(size(p.y)), -1), greater)
	}
	if p.x.Neg {
		greater, lesser = lesser, greater
	}
	return greater, d.signed(lesser, p.below)
}

// tangent encloses both components of the tangent. What stands below the line,
// cos 2x + cosh 2y, is twice the sum of two squares, and above it are twice the
// products of sines and cosines.
func (d *desk) tangent(x, y api.Span) (first, second api.Span) {
	sine, cosine := d.Sin(x), d.Cos(x)
	sinh, cosh := d.Sinh(y), d.Cosh(y)
	by := d.Add(d.Mul(cosine, cosine), d.Mul(sinh, sinh))
	return d.Div(d.Mul(sine, cosine), by), d.Div(d.Mul(sinh, cosh), by)
}

// halfAngle encloses half the angle of the point (1 - along² - across², 2 along):
// the component of an arctangent in the direction in which it turns.
func (d *desk) halfAngle(along, across api.Dyad, below bool) api.Span {
	x := difference(power(0), squares(along, across))
	return d.Scale(d.angle(x, sum(along, along), x.Neg, below), -1)
}

// approach encloses a quarter of the logarithm of the squares of the distances
// from -1 and from 1, one over the other: the other component of an arctangent.
// Of an along above 0 the first square is 4 along more than the other one.
func (d *desk) approach(along, across api.Dyad) api.Span {
	ahead := size(along)
	near := squares(difference(power(0), ahead), across)
	over := d.Div(d.Scale(d.Point(ahead), 2), d.Point(near))
	return d.signed(d.Scale(d.logarithmOver(over), -2), along.Neg)
}
