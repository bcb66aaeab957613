package circ_test

import (
	"testing"

	"volvelle/api"
	"volvelle/circ"
	"volvelle/dyad"
)

// P7.2: the squares of both together hold 1; the sine of a sum meets what sines
// and cosines of its parts say. These tests hold the calls against each other
// alone.

// cases answers spans of one number and of more, of all sizes.
func cases() []api.Span {
	s := &source{9}
	var l []api.Span
	for range 300 {
		l = append(l, point(s.anywhere(3)), s.span(3))
	}
	for _, x := range ordinary() {
		l = append(l, point(x), point(negative(x)))
	}
	return append(l, api.Span{}, point(most()), point(negative(most())), between(api.Dyad{}, number(1, 0)),
		between(number(-1, 0), number(1, -4)), between(negative(most()), most()))
}

// meetsOne tells whether a span holds 1.
func meetsOne(a api.Span) bool {
	return meet(a, point(number(1, 0)))
}

func TestSquares(t *testing.T) {
	t.Parallel()
	for i, a := range cases() {
		for _, p := range []int{16, 17 + i%200} {
			c := calc(p)
			sin, cos := c.Sin(a), c.Cos(a)
			if both := c.Add(c.Mul(sin, sin), c.Mul(cos, cos)); c.Bad || !meetsOne(both) {
				t.Fatalf("of %s with %d bits: %s", showSpan(a), p, showSpan(both))
			}
		}
	}
	for _, x := range []api.Dyad{number(1, 0), most(), near(1, 7000), near(41720, 100), number(3, -20), below(most(), -8000)} {
		c := calc(7000)
		sin, cos := c.Sin(point(x)), c.Cos(point(x))
		if both := c.Add(c.Mul(sin, sin), c.Mul(cos, cos)); c.Bad || !meetsOne(both) {
			t.Errorf("of %s: %s", show(x), showSpan(both))
		}
	}
}

// half answers a span of halves, so that sums of two stay in reach.
func half(a api.Span) api.Span {
	c := calc(53)
	return c.Scale(a, -1)
}

// checkSum holds the sine and the cosine of a sum against what those of its parts
// say.
func checkSum(t *testing.T, p int, a, b api.Span) {
	t.Helper()
	c, exact := calc(p), calc(api.MaxPrec)
	both := exact.Add(a, b)
	sinA, cosA, sinB, cosB := c.Sin(a), c.Cos(a), c.Sin(b), c.Cos(b)
	sin := c.Add(c.Mul(sinA, cosB), c.Mul(cosA, sinB))
	cos := c.Sub(c.Mul(cosA, cosB), c.Mul(sinA, sinB))
	if !meet(c.Sin(both), sin) || !meet(c.Cos(both), cos) || c.Bad || exact.Bad {
		t.Errorf("of %s and %s with %d bits: %s and %s", showSpan(a), showSpan(b), p, showSpan(sin), showSpan(cos))
	}
}

func TestSums(t *testing.T) {
	t.Parallel()
	all := cases()
	for i, a := range all {
		a, b := half(a), half(all[(7*i+3)%len(all)])
		checkSum(t, 16, a, b)
		checkSum(t, 17+i%200, a, b)
	}
	for _, x := range []api.Dyad{number(3, 0), near(20000, 60), number(1, -40)} {
		for _, y := range []api.Dyad{number(-7, -3), number(23735, 0), number(1, -9)} {
			checkSum(t, 7000, point(x), point(y))
		}
	}
}

// On the other side of 0 sines are those on this side, with the other sign, and
// cosines are the same.
func TestOtherSide(t *testing.T) {
	for i, a := range cases() {
		p := 16 + i%150
		c := calc(p)
		less := c.Neg(a)
		if !same(c.Sin(less), c.Neg(c.Sin(a))) || !same(c.Cos(less), c.Cos(a)) || c.Bad {
			t.Fatalf("of %s with %d bits", showSpan(a), p)
		}
	}
}

// Quarters of a turn that are told by Pi.
func TestPi(t *testing.T) {
	t.Parallel()
	for _, p := range []int{16, 17, 53, 100, 1000, 7000} {
		c := calc(p)
		for n := int64(-9); n <= 41720; n += 1 + max(n, 0)/2 {
			x := c.Mul(c.Num(n), c.Scale(c.Pi(), -1))
			sin, cos := c.Sin(x), c.Cos(x)
			values := []int64{0, 1, 0, -1}
			if !meet(sin, c.Num(values[n&3])) || !meet(cos, c.Num(values[(n+1)&3])) || c.Bad {
				t.Errorf("of %d quarters with %d bits: %s and %s", n, p, showSpan(sin), showSpan(cos))
			}
		}
		sixth := c.Div(c.Pi(), c.Num(6))
		if !meet(c.Sin(sixth), c.Scale(c.Num(1), -1)) || !meet(c.Cos(c.Scale(sixth, 1)), c.Scale(c.Num(1), -1)) || c.Bad {
			t.Errorf("of a sixth of pi with %d bits", p)
		}
	}
}

// With more bits what is enclosed meets what is with less.
func TestMoreBits(t *testing.T) {
	t.Parallel()
	for i, a := range cases() {
		for _, f := range functions() {
			few, more := answered(t, f, 16+i%50, a), answered(t, f, 300, a)
			if !meet(few, more) {
				t.Fatalf("%s of %s: %s and %s", f.name, showSpan(a), showSpan(few), showSpan(more))
			}
		}
	}
}

// What comes of a part of a span lies in what comes of all of it, but for what
// the ends are cut by.
func TestParts(t *testing.T) {
	t.Parallel()
	for i, a := range cases() {
		part, ok := middle(a)
		if !ok {
			continue
		}
		p := 16 + i%100
		for _, f := range functions() {
			whole, inner := answered(t, f, p, a), answered(t, f, p+80, between(a.Lo, part))
			low, _ := dyad.Cmp(whole.Lo, inner.Hi)
			high, _ := dyad.Cmp(inner.Lo, whole.Hi)
			if low > 0 || high > 0 || !touches(whole, inner, p) {
				t.Fatalf("%s of %s with %d bits: %s, of the lower half %s", f.name, showSpan(a), p, showSpan(whole), showSpan(inner))
			}
		}
	}
}

// touches tells whether inner lies in whole, but for 2^(4 - p) at its ends.
func touches(whole, inner api.Span, p int) bool {
	c := &circ.Calc{}
	c.P = 8000
	rim := c.Scale(c.Hull(c.Num(-1), c.Num(1)), 4-p)
	wider := c.Add(whole, rim)
	low, _ := dyad.Cmp(wider.Lo, inner.Lo)
	high, _ := dyad.Cmp(inner.Hi, wider.Hi)
	return !c.Bad && low <= 0 && high <= 0
}
