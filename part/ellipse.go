package part

import "volvelle/api"

// ellipse: the one through a point whose sums of distances from 1 and from -1
// are 2 a: what a is over 1, and over the size of the point's x. Differences of
// a from these, worked from a, would lose what they are made of.
type ellipse struct {
	x              api.Dyad
	overOne, overX api.Span
}

func (d *desk) ellipse(x, y api.Dyad) ellipse {
	right := size(x)
	far := d.over(sum(right, power(0)), y)
	overOne := d.Add(far, d.over(difference(power(0), right), y))
	overX := d.Add(far, d.over(difference(right, power(0)), y))
	return ellipse{x, d.Scale(overOne, -1), d.Scale(overX, -1)}
}

// over encloses what the distance of the point (x, y) from 0 is over x: a sum of
// an x that isn't above 0, and else the square of y over such a sum.
func (d *desk) over(x, y api.Dyad) api.Span {
	if x.Neg || isZero(x) {
		return d.Sub(d.distance(x, y), d.Point(x))
	}
	return d.Div(d.Point(product(y, y)), d.Add(d.distance(x, y), d.Point(x)))
}

// area encloses arcosh a: the logarithm of a and the root of a² - 1.
func (d *desk) area(e ellipse) api.Span {
	root := d.Root(d.Mul(e.overOne, d.Add(e.overOne, d.Num(2))))
	return d.logarithmOver(d.Add(e.overOne, root))
}

// beside encloses the root of a² - x²: the side of a triangle whose other sides
// are x and, across, a.
func (d *desk) beside(e ellipse) api.Span {
	twice := d.Scale(d.Point(size(e.x)), 1)
	return d.Root(d.Mul(e.overX, d.Add(e.overX, twice)))
}

// arcsine encloses that of x / a. As with logarithms, angles of two lone points
// are narrow.
func (d *desk) arcsine(e ellipse) api.Span {
	x, beside := d.Point(e.x), d.beside(e)
	return d.Hull(d.Atan2(x, d.Point(beside.Lo)), d.Atan2(x, d.Point(beside.Hi)))
}

// arccosine encloses that of x / a.
func (d *desk) arccosine(e ellipse) api.Span {
	x, beside := d.Point(e.x), d.beside(e)
	if e.x.Neg && isZero(beside.Lo) {
		return d.Pi()
	}
	return d.Hull(d.Atan2(d.Point(beside.Lo), x), d.Atan2(d.Point(beside.Hi), x))
}
