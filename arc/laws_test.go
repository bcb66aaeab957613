package arc_test

import (
	"testing"

	"volvelle/api"
	"volvelle/arc"
	"volvelle/dyad"
	"volvelle/span"
)

// P8.2: the sine and the cosine of a point's angle, times its distance, meet the
// point. These tests hold the calls against each other alone.

// A place is a point, or many.
type place struct{ y, x api.Span }

// places answers points and spans of them, of all sizes and in all quarters; none
// is cut.
func places() []place {
	s := &source{9}
	var l []place
	for range 200 {
		y, x := s.place(3)
		l = append(l, place{point(y), point(x)})
		if a := (place{s.span(3), s.span(3)}); !isCut(a.y, a.x) {
			l = append(l, a)
		}
	}
	all := ordinary()
	for i, y := range all {
		x := all[(i*11+5)%len(all)]
		l = append(l, place{point(y), point(x)}, place{point(negative(x)), point(y)}, place{point(y), point(negative(x))},
			place{point(negative(y)), point(negative(x))})
	}
	for _, y := range []api.Dyad{one(), number(-1, 0), least(), negative(most())} {
		l = append(l, place{point(y), point(zero())}, place{point(y), point(number(-3, 0))}, place{point(y), between(number(-3, 0), one())})
	}
	return append(l, place{point(zero()), point(one())}, place{between(number(-1, 0), one()), between(one(), number(9, 0))},
		place{between(zero(), one()), point(number(1, -9))})
}

// square answers the squares of all numbers of a span, none of which is below 0:
// products are of any two numbers of it.
func square(c *arc.Calc, a api.Span) api.Span {
	if span.Sign(a) != 0 {
		return c.Mul(a, a)
	}
	low, high := c.Point(a.Lo), c.Point(a.Hi)
	return c.Hull(c.Num(0), c.Hull(c.Mul(low, low), c.Mul(high, high)))
}

// meetsPoint tells whether the sine and the cosine of the place's angle, times
// its distance, meet the place.
func meetsPoint(p int, a place) bool {
	c := calc(p)
	angle := c.Atan2(a.y, a.x)
	distance := c.Root(c.Add(square(c, a.y), square(c, a.x)))
	y, x := c.Mul(c.Sin(angle), distance), c.Mul(c.Cos(angle), distance)
	return meet(y, a.y) && meet(x, a.x) && !c.Bad
}

func TestSineAndCosine(t *testing.T) {
	t.Parallel()
	for i, a := range places() {
		for _, p := range []int{16, 17 + i%200} {
			if !meetsPoint(p, a) {
				t.Errorf("of %s and %s with %d bits", showSpan(a.y), showSpan(a.x), p)
			}
		}
	}
	for _, y := range []api.Dyad{one(), number(-3, -30), number(7, 40)} {
		for _, x := range []api.Dyad{one(), number(-5, 0), number(9, -60)} {
			if !meetsPoint(7000, place{point(y), point(x)}) {
				t.Errorf("of %s and %s with 7000 bits", show(y), show(x))
			}
		}
	}
}

// What Atan tells is between the quarters, and its sine over its cosine is what
// it was of.
func TestTangent(t *testing.T) {
	t.Parallel()
	for i, a := range places() {
		p := 17 + i%200
		c := calc(p)
		angle := c.Atan(a.y)
		cos := c.Cos(angle)
		if span.Sign(cos) != 1 {
			// Next to a quarter of a turn it isn't told.
			continue
		}
		if back := c.Div(c.Sin(angle), cos); c.Bad || !meet(back, a.y) {
			t.Errorf("of %s with %d bits: %s", showSpan(a.y), p, showSpan(back))
		}
	}
}

// To the right Atan of y over x is the point's angle.
func TestQuotients(t *testing.T) {
	t.Parallel()
	tested := 0
	for i, a := range places() {
		if span.Sign(a.x) != 1 {
			continue
		}
		c := calc(16 + i%150)
		quotient := c.Div(a.y, a.x)
		if !sameDyad(quotient.Lo, inSpan(quotient.Lo)) || !sameDyad(quotient.Hi, inSpan(quotient.Hi)) {
			continue
		}
		tested++
		if !meet(c.Atan(quotient), c.Atan2(a.y, a.x)) || c.Bad {
			t.Errorf("of %s and %s", showSpan(a.y), showSpan(a.x))
		}
	}
	if tested < 100 {
		t.Error("of few only:", tested)
	}
}

// inSpan is inReach that lets 0 through.
func inSpan(d api.Dyad) api.Dyad {
	if isNought(d) {
		return d
	}
	return inReach(d)
}

// Beyond the axis of x angles are those on this side, with the other sign; beyond
// that of y they are what is left to half a turn.
func TestOtherSides(t *testing.T) {
	t.Parallel()
	for i, a := range places() {
		p := 16 + i%150
		c := calc(p)
		angle := c.Atan2(a.y, a.x)
		if !meet(c.Atan2(c.Neg(a.y), a.x), c.Neg(angle)) || !meet(c.Atan(c.Neg(a.y)), c.Neg(c.Atan(a.y))) || c.Bad {
			t.Errorf("of %s and %s with %d bits, below", showSpan(a.y), showSpan(a.x), p)
		}
		half := c.Pi()
		switch span.Sign(a.y) {
		case 0:
			continue
		case -1:
			half = c.Neg(half)
		}
		if other := c.Atan2(a.y, c.Neg(a.x)); !meet(c.Add(other, angle), half) || c.Bad {
			t.Errorf("of %s and %s with %d bits, on the other side: %s", showSpan(a.y), showSpan(a.x), p, showSpan(other))
		}
	}
}

// A quarter of a turn ahead, where that is no more than half a turn.
func TestQuarters(t *testing.T) {
	t.Parallel()
	for i, a := range places() {
		if span.Sign(a.x) != 1 {
			continue
		}
		p := 16 + i%150
		c := calc(p)
		ahead := c.Atan2(a.x, c.Neg(a.y))
		if !meet(ahead, c.Add(c.Atan2(a.y, a.x), c.Scale(c.Pi(), -1))) || c.Bad {
			t.Errorf("of %s and %s with %d bits: %s", showSpan(a.y), showSpan(a.x), p, showSpan(ahead))
		}
	}
}

func TestPi(t *testing.T) {
	t.Parallel()
	for _, p := range []int{16, 17, 53, 100, 1000, 7000} {
		c := calc(p)
		pi := c.Pi()
		part := func(n, over int64) api.Span { return c.Atan(c.Div(c.Num(n), c.Num(over))) }
		if !meet(c.Scale(part(1, 1), 2), pi) || !meet(c.Atan2(c.Num(1), c.Num(0)), c.Scale(pi, -1)) {
			t.Errorf("with %d bits: no part of pi", p)
		}
		machin := c.Sub(c.Scale(part(1, 5), 4), c.Scale(part(1, 239), 2))
		all := c.Add(c.Add(part(1, 1), part(2, 1)), part(3, 1))
		if !meet(machin, pi) || !meet(all, pi) {
			t.Errorf("with %d bits: sums of arctangents aren't pi: %s, %s", p, showSpan(machin), showSpan(all))
		}
		three := c.Root(c.Num(3))
		if !meet(c.Mul(c.Atan(three), c.Num(3)), pi) || !meet(c.Mul(c.Atan2(c.Num(-1), three), c.Num(-6)), pi) || c.Bad {
			t.Errorf("with %d bits: other angles of a hexagon", p)
		}
	}
}

// The angle of a product of points is that of both together.
func TestProducts(t *testing.T) {
	t.Parallel()
	s := &source{23}
	for range 300 {
		c := calc(16 + s.below(200))
		// Angles of less than a quarter of a turn, so that both are less than half a
		// one.
		a := place{point(s.number(3, -s.below(20))), point(sum(number(2, 0), s.number(3, 0)))}
		b := place{point(s.number(3, 5-s.below(10))), point(sum(number(2, 0), s.number(3, 0)))}
		y := c.Add(c.Mul(a.x, b.y), c.Mul(a.y, b.x))
		x := c.Sub(c.Mul(a.x, b.x), c.Mul(a.y, b.y))
		if isCut(y, x) {
			continue
		}
		if !meet(c.Atan2(y, x), c.Add(c.Atan2(a.y, a.x), c.Atan2(b.y, b.x))) || c.Bad {
			t.Errorf("of %s and %s, and %s and %s", showSpan(a.y), showSpan(a.x), showSpan(b.y), showSpan(b.x))
		}
	}
}

// With more bits what is enclosed meets what is with less.
func TestMoreBits(t *testing.T) {
	t.Parallel()
	for i, a := range places() {
		if !meet(angles(t, 16+i%50, a.y, a.x), angles(t, 300, a.y, a.x)) {
			t.Errorf("Atan2 of %s and %s", showSpan(a.y), showSpan(a.x))
		}
		if !meet(arctangents(t, 16+i%50, a.y), arctangents(t, 300, a.y)) {
			t.Errorf("Atan of %s", showSpan(a.y))
		}
	}
}

// Arctangents rise.
func TestRising(t *testing.T) {
	t.Parallel()
	all := places()
	for i, a := range all {
		b := all[(11*i+5)%len(all)]
		if order, _ := dyad.Cmp(a.y.Hi, b.y.Lo); order >= 0 {
			continue
		}
		low, high := arctangents(t, 60, a.y), arctangents(t, 60, b.y)
		if order, _ := dyad.Cmp(low.Lo, high.Hi); order >= 0 {
			t.Errorf("of %s and %s", showSpan(a.y), showSpan(b.y))
		}
	}
}

// What comes of a part of the spans lies in what comes of all of them, but for
// what the ends are cut by.
func TestParts(t *testing.T) {
	t.Parallel()
	for i, a := range places() {
		y, okY := middle(a.y)
		x, okX := middle(a.x)
		if !okY || !okX {
			continue
		}
		p := 16 + i%100
		whole := angles(t, p, a.y, a.x)
		for _, part := range []place{{between(a.y.Lo, y), a.x}, {a.y, between(x, a.x.Hi)}, {point(a.y.Hi), point(a.x.Lo)}} {
			if inner := angles(t, p+80, part.y, part.x); !touches(whole, inner) {
				t.Errorf("of %s and %s with %d bits: %s, of a part %s", showSpan(a.y), showSpan(a.x), p, showSpan(whole), showSpan(inner))
			}
		}
	}
}

// touches tells whether inner lies in whole, but for what it is wide by at its
// ends, with bits enough.
func touches(whole, inner api.Span) bool {
	c := &arc.Calc{}
	c.P = api.MaxPrec
	rim := c.Scale(c.Hull(c.Neg(c.Out(inner)), inner), -80)
	wider := c.Add(whole, rim)
	low, _ := dyad.Cmp(wider.Lo, inner.Lo)
	high, _ := dyad.Cmp(inner.Hi, wider.Hi)
	return !c.Bad && low <= 0 && high <= 0
}
