package loga_test

import (
	"testing"

	"volvelle/api"
	"volvelle/dyad"
)

// P6.2: Log of a product meets the sum of Logs; Log of an Exp meets what it was
// of. These tests hold the calls against each other alone.

// cases answers spans of one number and of more, of all sizes.
func cases() []api.Span {
	s := &source{9}
	var l []api.Span
	for range 300 {
		l = append(l, point(s.anywhere(3)), s.span(3))
	}
	for _, x := range ordinary() {
		l = append(l, point(x))
	}
	return append(l, point(one()), point(least()), point(most()), between(least(), most()), between(one(), number(2, 0)))
}

// half answers a span whose ends have half the exponents, so that products of
// two stay in reach.
func half(a api.Span) api.Span {
	for _, d := range []*api.Dyad{&a.Lo, &a.Hi} {
		top := d.E + 64*len(d.M)
		d.E -= top / 2
	}
	if !isRight(a) {
		a.Lo, a.Hi = a.Hi, a.Lo
	}
	return a
}

func TestProducts(t *testing.T) {
	all := cases()
	for i, a := range all {
		a, b := half(a), half(all[(7*i+3)%len(all)])
		for _, p := range []int{16, 17 + i%200} {
			c := calc(p)
			exact := calc(api.MaxPrec)
			whole := c.Log(exact.Mul(a, b))
			parts := c.Add(c.Log(a), c.Log(b))
			if c.Bad || exact.Bad || !meet(whole, parts) {
				t.Fatalf("of %s and %s with %d bits: %s, %s", showSpan(a), showSpan(b), p, showSpan(whole), showSpan(parts))
			}
		}
	}
}

// Products at the greatest number of bits, of numbers near 1 and far from it.
func TestProductsOfManyBits(t *testing.T) {
	for _, x := range []api.Dyad{number(3, 0), above(one(), -30), below(one(), -60), above(one(), -2000), number(1, 9999)} {
		for _, y := range []api.Dyad{number(7, -3), below(one(), -45), number(1, -9999)} {
			c := calc(7000)
			both, ok := dyad.Mul(x, y)
			whole := c.Log(point(both))
			parts := c.Add(c.Log(point(x)), c.Log(point(y)))
			if c.Bad || !ok || !meet(whole, parts) {
				t.Errorf("of %s and %s: %s, %s", show(x), show(y), showSpan(whole), showSpan(parts))
			}
		}
	}
}

func TestQuotients(t *testing.T) {
	for i, a := range cases() {
		c := calc(30 + i%100)
		exact := calc(api.MaxPrec)
		less := exact.Div(exact.Num(1), a)
		if bad, _ := dyad.Cmp(less.Hi, most()); bad > 0 {
			continue
		}
		if bad, _ := dyad.Cmp(less.Lo, least()); bad < 0 {
			continue
		}
		if !meet(c.Log(less), c.Neg(c.Log(a))) || c.Bad || exact.Bad {
			t.Fatalf("of %s and what is 1 over it", showSpan(a))
		}
	}
}

// exponents answers spans whose Exp is in reach.
func exponents() []api.Span {
	s := &source{19}
	var l []api.Span
	for range 300 {
		a, b := s.number(3, 13-s.below(100)), s.number(3, 13-s.below(20))
		a.Neg, b.Neg = s.next()%2 == 0, s.next()%2 == 0
		l = append(l, point(a), point(b))
		if order, _ := dyad.Cmp(a, b); order > 0 {
			a, b = b, a
		}
		l = append(l, between(a, b))
	}
	for _, n := range []int64{0, 1, -1, 13862, -13862} {
		l = append(l, point(number(n, 0)))
	}
	return l
}

func TestLogOfExp(t *testing.T) {
	for i, a := range exponents() {
		for _, p := range []int{16, 17 + i%200} {
			c := calc(p)
			if back := c.Log(c.Exp(a)); c.Bad || !meet(back, a) {
				t.Fatalf("of %s with %d bits: %s", showSpan(a), p, showSpan(back))
			}
		}
	}
	for _, n := range []int64{1, -13862} {
		c := calc(7000)
		if back := c.Log(c.Exp(c.Num(n))); c.Bad || !meet(back, c.Num(n)) {
			t.Errorf("of %d: %s", n, showSpan(back))
		}
	}
}

// The other way round what comes back holds all numbers.
func TestExpOfLog(t *testing.T) {
	for i, a := range cases() {
		c := calc(16 + i%150)
		back := c.Exp(c.Log(a))
		low, _ := dyad.Cmp(back.Lo, a.Lo)
		high, _ := dyad.Cmp(a.Hi, back.Hi)
		if c.Bad || low > 0 || high > 0 {
			t.Fatalf("of %s: %s", showSpan(a), showSpan(back))
		}
	}
}

func TestLogOfTwo(t *testing.T) {
	for _, p := range []int{16, 17, 53, 100, 1000, 1024, 7000} {
		c := calc(p)
		two := c.Log(c.Num(2))
		if !meet(two, c.Ln2()) || !meet(c.Log(c.Num(1<<40)), c.Mul(c.Num(40), c.Ln2())) || c.Bad {
			t.Errorf("with %d bits: %s", p, showSpan(two))
		}
	}
}

// With more bits what is enclosed meets what is with less.
func TestMoreBits(t *testing.T) {
	for i, a := range cases() {
		few, more := answered(t, 16+i%50, a), answered(t, 300, a)
		if !meet(few, more) {
			t.Fatalf("Log of %s", showSpan(a))
		}
	}
}

// As logarithms rise, so do both ends, but for what they are cut by.
func TestRising(t *testing.T) {
	all := cases()
	for i, a := range all {
		b := all[(11*i+5)%len(all)]
		if order, _ := dyad.Cmp(a.Hi, b.Lo); order >= 0 {
			continue
		}
		low, high := answered(t, 60, a), answered(t, 60, b)
		if order, _ := dyad.Cmp(low.Lo, high.Hi); order >= 0 {
			t.Fatalf("of %s and %s", showSpan(a), showSpan(b))
		}
	}
}
