package arc_test

import (
	"math"
	"testing"

	"volvelle/api"
	"volvelle/arc"
)

// P8.1, P0 and R2: calcs that are nil, bad, or of a P that isn't right; spans
// that aren't right or not in reach.

func wrongBits() []int {
	return []int{
		15, 7001, 0, 1, 2, 14, -1, -15, -16, -7000, 7002, api.MaxPrec, api.MaxPrec + 1, 1 << 20,
		math.MaxInt, math.MaxInt - 64, math.MinInt,
	}
}

// notRight answers spans of numbers that aren't plain, or whose ends are changed
// over.
func notRight() []api.Span {
	l := []api.Span{
		between(one(), zero()), between(zero(), number(-1, 0)), between(most(), negative(most())),
		between(above(one(), -1000), one()), between(one(), below(one(), -1000)), between(least(), zero()),
		between(zero(), negative(least())),
	}
	for _, d := range []api.Dyad{
		{M: []uint64{2}}, {M: []uint64{1, 0}}, {M: []uint64{0}}, {M: []uint64{0, 1}}, {Neg: true}, {E: 1}, {E: -5, Neg: true},
		{M: []uint64{1}, E: -api.MaxExp - 1}, {M: []uint64{1}, E: api.MaxExp + 1}, {M: []uint64{1}, E: math.MaxInt},
		{M: []uint64{1}, E: math.MinInt}, {M: append(make([]uint64, api.MaxBits/64), 1)},
		{M: append([]uint64{1}, append(make([]uint64, api.MaxBits/64-1), 1)...), E: -api.MaxBits},
		{M: []uint64{0}, Neg: true}, {M: []uint64{0, 0, 0}, E: 3}, {M: []uint64{}, E: 1},
	} {
		l = append(l, point(d), between(d, most()), between(negative(most()), d), between(d, zero()), between(zero(), d))
	}
	return l
}

// notInReach answers right spans that have an end that isn't 0 and not 2^-20000
// to 2^20000 in size.
func notInReach() []api.Span {
	var l []api.Span
	for _, far := range []api.Dyad{
		number(1, 20001), number(3, 19999), above(most(), 20001-api.MaxBits), above(most(), 19000), number(1, 100000),
		number(1, api.MaxExp),
	} {
		for _, x := range []api.Dyad{zero(), one(), number(-1, 0), least(), most(), negative(most()), negative(far)} {
			l = append(l, between(x, far), between(negative(far), negative(x)))
		}
		l = append(l, point(far), point(negative(far)))
	}
	for _, near := range []api.Dyad{
		number(1, -20001), number(3, -20002), below(least(), -20000-api.MaxBits), below(least(), -20100), number(1, -100000),
		number(1, -api.MaxExp),
	} {
		for _, x := range []api.Dyad{one(), least(), most(), number(1, 20000)} {
			l = append(l, between(near, x), between(negative(x), negative(near)), between(negative(near), x), between(negative(x), near))
		}
		l = append(l, point(near), point(negative(near)), between(zero(), near), between(negative(near), zero()))
	}
	return l
}

// good answers spans that are taken, as y or as x.
func good() []api.Span {
	return []api.Span{
		point(one()), between(one(), number(2, 0)), point(least()), point(most()), between(least(), most()), point(number(5, -9)),
	}
}

func TestNilCalc(t *testing.T) {
	var c *arc.Calc
	for _, a := range append(append(append(notRight(), notInReach()...), good()...), api.Span{}) {
		if !isZero(c.Atan(a)) || !isZero(c.Atan2(a, point(one()))) || !isZero(c.Atan2(point(one()), a)) {
			t.Errorf("of %v: a nil calc answers", a)
		}
	}
}

// refused tells whether the calc answers zero values to all calls, and is bad.
func refused(c *arc.Calc) bool {
	p := c.P
	for _, a := range append(good(), api.Span{}) {
		if !isZero(c.Atan(a)) || !isZero(c.Atan2(a, point(one()))) || !isZero(c.Atan2(point(one()), a)) || !c.Bad || c.P != p {
			return false
		}
	}
	a := point(one())
	return isZero(c.Pi()) && isZero(c.Exp(a)) && isZero(c.Log(a)) && isZero(c.Sin(a)) && isZero(c.Num(1)) && c.Bad
}

// spoils tells whether Atan2 of a good calc is refused, and leaves it bad.
func spoils(p int, y, x api.Span) bool {
	c := calc(p)
	if !isZero(c.Atan2(y, x)) || !c.Bad || c.P != p {
		return false
	}
	return refused(c)
}

// spoilsAtan is spoils of Atan.
func spoilsAtan(p int, a api.Span) bool {
	c := calc(p)
	if !isZero(c.Atan(a)) || !c.Bad || c.P != p {
		return false
	}
	return refused(c)
}

func TestBitsThatAreNotRight(t *testing.T) {
	for _, p := range wrongBits() {
		for _, a := range append(good(), api.Span{}, point(number(-3, 0)), point(number(1, 20001))) {
			if !spoilsAtan(p, a) {
				t.Errorf("Atan of %s with %d bits", showSpan(a), p)
			}
			if !spoils(p, a, point(one())) || !spoils(p, point(one()), a) {
				t.Errorf("Atan2 of %s with %d bits", showSpan(a), p)
			}
		}
		c := calc(p)
		c.Atan(point(one()))
		// Right bits don't mend it.
		if c.P = 53; !refused(c) {
			t.Errorf("with %d bits: it is good again", p)
		}
	}
}

func TestBadCalc(t *testing.T) {
	for _, p := range append(wrongBits(), 16, 53, 7000) {
		c := calc(p)
		c.Bad = true
		if !refused(c) {
			t.Errorf("a bad one of %d bits answers", p)
		}
	}
	for i, spoil := range []func(c *arc.Calc){
		func(c *arc.Calc) { c.Fail() },
		func(c *arc.Calc) { c.Div(c.Num(1), c.Num(0)) },
		func(c *arc.Calc) { c.Root(c.Num(-1)) },
		func(c *arc.Calc) { c.P = 15; c.Pi(); c.P = 53 },
		func(c *arc.Calc) { c.Exp(c.Num(65537)) },
		func(c *arc.Calc) { c.Log(c.Num(0)) },
		func(c *arc.Calc) { c.Sin(c.Num(65537)) },
		func(c *arc.Calc) { c.Atan(c.Scale(c.Num(1), 20001)) },
		func(c *arc.Calc) { c.Atan(c.Scale(c.Num(1), -20001)) },
		func(c *arc.Calc) { c.Atan2(c.Num(0), c.Num(0)) },
		func(c *arc.Calc) { c.Atan2(c.Num(0), c.Num(-1)) },
	} {
		c := calc(53)
		if spoil(c); !refused(c) {
			t.Error(i)
		}
	}
}

func TestSpansThatAreNotRight(t *testing.T) {
	for i, a := range notRight() {
		for _, p := range []int{16, 53, 7000} {
			if !spoilsAtan(p, a) {
				t.Errorf("Atan of %d with %d bits", i, p)
			}
			for _, b := range append(good(), a) {
				if !spoils(p, a, b) || !spoils(p, b, a) {
					t.Errorf("Atan2 of %d and %s with %d bits", i, showSpan(b), p)
				}
			}
		}
	}
}

func TestSpansThatAreNotInReach(t *testing.T) {
	for _, a := range notInReach() {
		for _, p := range []int{16, 53, 7000} {
			if !spoilsAtan(p, a) {
				t.Errorf("Atan of %s with %d bits", showSpan(a), p)
			}
			for _, b := range append(good(), a) {
				if !spoils(p, a, b) || !spoils(p, b, a) {
					t.Errorf("Atan2 of %s and %s with %d bits", showSpan(a), showSpan(b), p)
				}
			}
		}
	}
}

// What is in reach is answered, as far as its ends go.
func TestReach(t *testing.T) {
	under, over := below(most(), 20000-api.MaxBits), above(least(), -20000-api.MaxBits+1)
	l := []api.Span{
		point(most()), point(least()), point(under), point(over), between(over, under), between(least(), most()),
		between(under, most()), between(least(), over),
	}
	for _, a := range append(l, between(zero(), most()), between(zero(), least()), between(negative(most()), most()),
		between(negative(least()), least()), between(negative(most()), least()), between(negative(under), over)) {
		for _, p := range []int{16, 53, 1000} {
			for _, a := range []api.Span{a, mirrored(a)} {
				if isZero(arctangents(t, p, a)) || isZero(angles(t, p, a, point(one()))) || isZero(angles(t, p, point(one()), a)) {
					t.Errorf("of %s with %d bits: 0", showSpan(a), p)
				}
				for _, b := range l {
					if isZero(angles(t, p, a, b)) || isZero(angles(t, p, b, a)) {
						t.Errorf("Atan2 of %s and %s with %d bits: 0", showSpan(a), showSpan(b), p)
					}
				}
			}
		}
	}
}
