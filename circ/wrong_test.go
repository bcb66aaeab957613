package circ_test

import (
	"math"
	"testing"

	"volvelle/api"
	"volvelle/circ"
)

// P7.1, P0 and R2: calcs that are nil, bad, or of a P that isn't right; spans
// that aren't right or not in reach.

func wrongBits() []int {
	return []int{
		15, 7001, 0, 1, 2, 14, -1, -15, -16, -7000, 7002, api.MaxPrec, api.MaxPrec + 1, 1 << 20,
		math.MaxInt, math.MaxInt - 64, math.MinInt,
	}
}

// notRight answers spans of numbers that aren't plain, or whose ends are changed
// over.
func notRight() []api.Span {
	one := number(1, 0)
	l := []api.Span{
		between(one, api.Dyad{}), between(api.Dyad{}, number(-1, 0)), between(most(), negative(most())),
		between(above(one, -1000), one), between(one, below(one, -1000)), between(number(1, -api.MaxExp), api.Dyad{}),
	}
	for _, d := range []api.Dyad{
		{M: []uint64{2}}, {M: []uint64{1, 0}}, {M: []uint64{0}}, {M: []uint64{0, 1}}, {Neg: true}, {E: 1}, {E: -5, Neg: true},
		{M: []uint64{1}, E: -api.MaxExp - 1}, {M: []uint64{1}, E: api.MaxExp + 1}, {M: []uint64{1}, E: math.MaxInt},
		{M: []uint64{1}, E: math.MinInt}, {M: append(make([]uint64, api.MaxBits/64), 1)},
		{M: append([]uint64{1}, append(make([]uint64, api.MaxBits/64-1), 1)...), E: -api.MaxBits},
	} {
		l = append(l, point(d), between(d, most()), between(negative(most()), d))
	}
	return l
}

// notInReach answers right spans that have an end of more than 65536 in size.
func notInReach() []api.Span {
	var l []api.Span
	for _, far := range []api.Dyad{
		number(65537, 0), number(1, 17), number(3, 15), above(most(), 17-api.MaxBits), above(most(), -5000), number(0x100000001, -16),
		number(1, 1000), number(1, api.MaxExp),
	} {
		for _, x := range []api.Dyad{{}, number(1, 0), number(-1, 0), number(1, -api.MaxExp), most(), negative(most()), negative(far)} {
			l = append(l, between(x, far), between(negative(far), negative(x)))
		}
		l = append(l, point(far), point(negative(far)))
	}
	return l
}

func TestNilCalc(t *testing.T) {
	var c *circ.Calc
	for _, a := range append(append(notRight(), notInReach()...), api.Span{}, point(number(1, 0))) {
		for _, f := range functions() {
			if got := f.call(c, a); !isZero(got) {
				t.Errorf("%s of a nil calc: %v", f.name, got)
			}
		}
	}
}

// refused tells whether the calc answers zero values to all calls, and is bad.
func refused(c *circ.Calc) bool {
	p := c.P
	for _, a := range []api.Span{{}, point(number(1, 0)), between(number(1, -1), number(2, 0))} {
		for _, f := range functions() {
			if !isZero(f.call(c, a)) || !c.Bad || c.P != p {
				return false
			}
		}
	}
	return isZero(c.Pi()) && isZero(c.Exp(point(number(1, 0)))) && isZero(c.Log(point(number(2, 0)))) && isZero(c.Num(1)) && c.Bad
}

// spoils tells whether a call of a good calc is refused, and leaves it bad.
func spoils(f function, p int, a api.Span) bool {
	c := calc(p)
	if got := f.call(c, a); !isZero(got) || !c.Bad || c.P != p {
		return false
	}
	return refused(c)
}

func TestBitsThatAreNotRight(t *testing.T) {
	for _, p := range wrongBits() {
		for _, f := range functions() {
			for _, a := range []api.Span{
				{}, point(number(1, 0)), between(api.Dyad{}, number(1, 0)), point(most()), point(number(65537, 0)),
			} {
				if !spoils(f, p, a) {
					t.Errorf("%s of %s with %d bits", f.name, showSpan(a), p)
				}
			}
			c := calc(p)
			f.call(c, point(number(1, 0)))
			// Right bits don't mend it.
			if c.P = 53; !refused(c) {
				t.Errorf("%s with %d bits: it is good again", f.name, p)
			}
		}
	}
}

func TestBadCalc(t *testing.T) {
	for _, p := range append(wrongBits(), 16, 53, 7000) {
		c := calc(p)
		c.Bad = true
		if !refused(c) {
			t.Errorf("a bad one of %d bits answers", p)
		}
	}
	for i, spoil := range []func(c *circ.Calc){
		func(c *circ.Calc) { c.Fail() },
		func(c *circ.Calc) { c.Div(c.Num(1), c.Num(0)) },
		func(c *circ.Calc) { c.Root(c.Num(-1)) },
		func(c *circ.Calc) { c.P = 15; c.Pi(); c.P = 53 },
		func(c *circ.Calc) { c.Exp(c.Num(65537)) },
		func(c *circ.Calc) { c.Log(c.Num(0)) },
		func(c *circ.Calc) { c.Sin(c.Num(65537)) },
		func(c *circ.Calc) { c.Cos(c.Num(-65537)) },
		func(c *circ.Calc) { c.Sin(c.Scale(c.Num(1), -api.MaxExp)) },
	} {
		c := calc(53)
		if spoil(c); !refused(c) {
			t.Error(i)
		}
	}
}

func TestSpansThatAreNotRight(t *testing.T) {
	for i, a := range notRight() {
		for _, f := range functions() {
			for _, p := range []int{16, 53, 7000} {
				if !spoils(f, p, a) {
					t.Errorf("%s of %d with %d bits", f.name, i, p)
				}
			}
		}
	}
}

func TestSpansThatAreNotInReach(t *testing.T) {
	for _, a := range notInReach() {
		for _, f := range functions() {
			for _, p := range []int{16, 53, 7000} {
				if !spoils(f, p, a) {
					t.Errorf("%s of %s with %d bits", f.name, showSpan(a), p)
				}
			}
		}
	}
}

// What is in reach is answered, as far as its ends go.
func TestReach(t *testing.T) {
	under := below(most(), 16-api.MaxBits)
	for _, a := range []api.Span{
		point(most()), point(negative(most())), between(negative(most()), most()), point(under), point(negative(under)),
		between(under, most()), between(negative(most()), negative(under)), between(negative(under), under),
		between(api.Dyad{}, most()), between(negative(most()), api.Dyad{}), between(number(1, -api.MaxExp), most()),
	} {
		for _, f := range functions() {
			for _, p := range []int{16, 53, 1000} {
				if got := answered(t, f, p, a); isZero(got) {
					t.Errorf("%s of %s with %d bits: 0", f.name, showSpan(a), p)
				}
			}
		}
	}
}
