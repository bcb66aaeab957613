package loga_test

import (
	"math"
	"testing"

	"volvelle/api"
	"volvelle/loga"
)

// P6.1, P0 and R2: calcs that are nil, bad, or of a P that isn't right; spans
// that aren't right, not above 0, or with an end that is too small or too great.

func wrongBits() []int {
	return []int{
		15, 7001, 0, 1, 2, 14, -1, -15, -16, -7000, 7002, api.MaxPrec, api.MaxPrec + 1, 1 << 20,
		math.MaxInt, math.MaxInt - 64, math.MinInt,
	}
}

// notRight answers spans of numbers that aren't plain, or whose ends are changed
// over.
func notRight() []api.Span {
	l := []api.Span{
		between(number(2, 0), one()), between(one(), number(1, -1)), between(most(), least()),
		between(above(one(), -1000), one()), between(one(), below(one(), -1000)),
	}
	for _, d := range []api.Dyad{
		{M: []uint64{2}}, {M: []uint64{1, 0}}, {M: []uint64{0}}, {M: []uint64{0, 1}}, {Neg: true}, {E: 1}, {E: -5, Neg: true},
		{M: []uint64{1}, E: -api.MaxExp - 1}, {M: []uint64{1}, E: api.MaxExp + 1}, {M: []uint64{1}, E: math.MaxInt},
		{M: []uint64{1}, E: math.MinInt}, {M: append(make([]uint64, api.MaxBits/64), 1)},
		{M: append([]uint64{1}, append(make([]uint64, api.MaxBits/64-1), 1)...), E: -api.MaxBits},
	} {
		l = append(l, point(d), between(d, most()), between(least(), d))
	}
	return l
}

// notInReach answers right spans that have an end of 0 or below, or one that is
// below 2^-20000 or above 2^20000.
func notInReach() []api.Span {
	var l []api.Span
	for _, low := range []api.Dyad{
		{}, number(-1, 0), number(-1, -20000), number(-3, -300), number(-1, 20000), number(-1, -api.MaxExp),
		number(1, -20001), number(3, -20002), below(least(), -20000-api.MaxBits), below(least(), -20100), number(1, -30000),
		number(1, -api.MaxExp),
	} {
		l = append(l, point(low), between(low, one()), between(low, most()), between(low, least()), between(low, number(5, 0)),
			between(low, number(1, 20001)))
	}
	for _, high := range []api.Dyad{
		number(1, 20001), number(3, 20000), number(3, 19999), above(most(), 20000-api.MaxBits+1), above(most(), 19900),
		number(1, 30000), number(1, api.MaxExp),
	} {
		l = append(l, point(high), between(one(), high), between(least(), high), between(most(), high),
			between(number(1, -20001), high), between(api.Dyad{}, high), between(negative(high), high))
	}
	return l
}

func TestNilCalc(t *testing.T) {
	var c *loga.Calc
	for _, a := range append(append(notRight(), notInReach()...), point(one()), between(one(), number(2, 0))) {
		if got := c.Log(a); !isZero(got) {
			t.Errorf("Log of a nil calc: %v", got)
		}
	}
}

// refused tells whether the calc answers zero values to all calls, and is bad.
func refused(c *loga.Calc) bool {
	p := c.P
	for _, a := range []api.Span{point(one()), point(number(2, 0)), between(number(1, -1), number(2, 0))} {
		if !isZero(c.Log(a)) || !isZero(c.Exp(a)) || !c.Bad || c.P != p {
			return false
		}
	}
	return isZero(c.Pi()) && isZero(c.Ln2()) && isZero(c.Num(1)) && c.Bad
}

// spoils tells whether a call of a good calc is refused, and leaves it bad.
func spoils(p int, a api.Span) bool {
	c := calc(p)
	if got := c.Log(a); !isZero(got) || !c.Bad || c.P != p {
		return false
	}
	return refused(c)
}

func TestBitsThatAreNotRight(t *testing.T) {
	for _, p := range wrongBits() {
		for _, a := range []api.Span{{}, point(one()), point(number(2, 0)), between(least(), most()), point(number(1, 20001))} {
			if !spoils(p, a) {
				t.Errorf("Log of %s with %d bits", showSpan(a), p)
			}
		}
		c := calc(p)
		c.Log(point(one()))
		// Right bits don't mend it.
		if c.P = 53; !refused(c) {
			t.Errorf("Log with %d bits: it is good again", p)
		}
	}
}

func TestBadCalc(t *testing.T) {
	for _, p := range append(wrongBits(), 16, 53, 7000) {
		c := calc(p)
		c.Bad = true
		if !refused(c) {
			t.Errorf("a bad one of %d bits answers", p)
		}
	}
	for i, spoil := range []func(c *loga.Calc){
		func(c *loga.Calc) { c.Fail() },
		func(c *loga.Calc) { c.Div(c.Num(1), c.Num(0)) },
		func(c *loga.Calc) { c.Root(c.Num(-1)) },
		func(c *loga.Calc) { c.P = 15; c.Pi(); c.P = 53 },
		func(c *loga.Calc) { c.Exp(c.Num(65537)) },
		func(c *loga.Calc) { c.Log(c.Num(0)) },
	} {
		c := calc(53)
		if spoil(c); !refused(c) {
			t.Error(i)
		}
	}
}

func TestSpansThatAreNotRight(t *testing.T) {
	for i, a := range notRight() {
		for _, p := range []int{16, 53, 7000} {
			if !spoils(p, a) {
				t.Errorf("%d with %d bits", i, p)
			}
		}
	}
}

func TestSpansThatAreNotInReach(t *testing.T) {
	for _, a := range notInReach() {
		if !isRight(a) {
			t.Fatalf("%s isn't right", showSpan(a))
		}
		for _, p := range []int{16, 53, 7000} {
			if !spoils(p, a) {
				t.Errorf("Log of %s with %d bits", showSpan(a), p)
			}
		}
	}
}

// What is in reach is answered, as far as its ends go.
func TestReach(t *testing.T) {
	under, over := below(most(), 20000-api.MaxBits), above(least(), -20000-api.MaxBits+1)
	for _, a := range []api.Span{
		point(most()), point(least()), between(least(), most()), point(under), point(over), between(under, most()),
		between(least(), over), between(over, under), between(one(), most()), between(least(), one()),
	} {
		for _, p := range []int{16, 53, 1000} {
			if got := answered(t, p, a); isZero(got) {
				t.Errorf("Log of %s with %d bits: 0", showSpan(a), p)
			}
		}
	}
}
