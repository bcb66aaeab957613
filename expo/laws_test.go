package expo_test

import (
	"testing"

	"volvelle/api"
	"volvelle/dyad"
)

// P5.2: Cosh squared less Sinh squared holds 1; Exp of a sum meets the product
// of Exps. These tests hold the calls against each other alone.

func meet(a, b api.Span) bool {
	x, okX := dyad.Cmp(a.Lo, b.Hi)
	y, okY := dyad.Cmp(b.Lo, a.Hi)
	return okX && okY && x <= 0 && y <= 0
}

// cases answers spans of one number and of more, of all sizes.
func cases() []api.Span {
	s := &source{9}
	var l []api.Span
	for range 400 {
		l = append(l, point(s.number(3, 15-s.below(60))), s.span(3, 15-s.below(60)))
	}
	for _, x := range ordinary() {
		// Halves, so that sums of two stay in reach.
		x, _ = dyad.Make(x.Neg, x.M, x.E-1)
		l = append(l, point(x), point(negative(x)), between(negative(x), x))
	}
	return append(l, api.Span{}, between(number(-1, -200), number(1, 3)))
}

func TestSquares(t *testing.T) {
	for i, a := range cases() {
		for _, p := range []int{16, 17 + i%200} {
			c := calc(p)
			sinh, cosh := c.Sinh(a), c.Cosh(a)
			rest := c.Sub(c.Mul(cosh, cosh), c.Mul(sinh, sinh))
			if c.Bad || !meet(rest, c.Num(1)) {
				t.Fatalf("of %s with %d bits: %s", showSpan(a), p, showSpan(rest))
			}
		}
	}
}

// Of one number the rest is near 1 as well.
func TestSquaresAreNear(t *testing.T) {
	for _, n := range []int64{1, 3, -5, 7} {
		for _, e := range []int{0, -1, -10, -17, -40} {
			c := calc(200)
			sinh, cosh := c.Sinh(point(number(n, e))), c.Cosh(point(number(n, e)))
			rest := c.Sub(c.Mul(cosh, cosh), c.Mul(sinh, sinh))
			under, _ := minus(number(1, 0), number(1, -140))
			low, _ := dyad.Cmp(under, rest.Lo)
			high, _ := dyad.Cmp(rest.Hi, above(number(1, 0), -140))
			if low > 0 || high > 0 || !meet(rest, c.Num(1)) {
				t.Errorf("of %d 2^%d: %s", n, e, showSpan(rest))
			}
		}
	}
}

func TestSums(t *testing.T) {
	all := cases()
	for i, a := range all {
		b := all[(7*i+3)%len(all)]
		for _, p := range []int{16, 17 + i%200} {
			c := calc(p)
			exact := calc(p)
			exact.P = api.MaxPrec
			sum := exact.Add(a, b)
			whole := c.Exp(sum)
			parts := c.Mul(c.Exp(a), c.Exp(b))
			if c.Bad || exact.Bad || !meet(whole, parts) {
				t.Fatalf("of %s and %s with %d bits: %s, %s", showSpan(a), showSpan(b), p, showSpan(whole), showSpan(parts))
			}
		}
	}
}

// Sinh and Cosh are what Exp comes to, each way.
func TestSumsOfBoth(t *testing.T) {
	for i, a := range cases() {
		c := calc(30 + i%100)
		if whole := c.Add(c.Sinh(a), c.Cosh(a)); !meet(whole, c.Exp(a)) {
			t.Fatalf("of %s: %s", showSpan(a), showSpan(whole))
		}
		if whole := c.Sub(c.Cosh(a), c.Sinh(a)); !meet(whole, c.Exp(c.Neg(a))) {
			t.Fatalf("of %s: %s", showSpan(a), showSpan(whole))
		}
		if !same(c.Sinh(c.Neg(a)), c.Neg(c.Sinh(a))) || !same(c.Cosh(c.Neg(a)), c.Cosh(a)) {
			t.Fatalf("of %s and the other side of 0", showSpan(a))
		}
		if c.Bad {
			t.Fatalf("of %s: bad", showSpan(a))
		}
	}
}

// With more bits what is enclosed meets what is with less.
func TestMoreBits(t *testing.T) {
	for i, a := range cases() {
		for _, f := range functions() {
			few, more := answered(t, f, 16+i%50, a), answered(t, f, 300, a)
			if !meet(few, more) {
				t.Fatalf("%s of %s", f.name, showSpan(a))
			}
		}
	}
}
