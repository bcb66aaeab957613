package expo_test

import (
	"math"
	"testing"

	"volvelle/api"
	"volvelle/expo"
)

// P5.1, P0 and R2: calcs that are nil, bad, or of a P that isn't right; spans
// that aren't right, or not in reach.

func wrongBits() []int {
	return []int{
		15, 7001, 0, 1, 2, 14, -1, -15, -16, -7000, 7002, api.MaxPrec, api.MaxPrec + 1, 1 << 20,
		math.MaxInt, math.MaxInt - 64, math.MinInt,
	}
}

// notRight answers spans of numbers that aren't plain, or whose ends are changed
// over.
func notRight() []api.Span {
	l := []api.Span{
		between(number(2, 0), number(1, 0)), between(number(1, 0), number(-1, 0)), between(api.Dyad{}, number(-1, -300)),
		between(number(1, 0), api.Dyad{}), between(number(1, -api.MaxExp), api.Dyad{}),
		between(above(number(1, 0), -1000), number(1, 0)),
	}
	for _, d := range []api.Dyad{
		{M: []uint64{2}}, {M: []uint64{1, 0}}, {M: []uint64{0}}, {M: []uint64{0, 1}}, {Neg: true}, {E: 1}, {E: -5, Neg: true},
		{M: []uint64{1}, E: -api.MaxExp - 1}, {M: []uint64{1}, E: api.MaxExp + 1}, {M: []uint64{1}, E: math.MaxInt},
		{M: []uint64{1}, E: math.MinInt}, {M: append(make([]uint64, api.MaxBits/64), 1)},
		{M: append([]uint64{1}, append(make([]uint64, api.MaxBits/64-1), 1)...), E: -api.MaxBits},
	} {
		l = append(l, point(d), between(d, number(1, 0)), between(number(-1, 0), d))
	}
	return l
}

// notInReach answers right spans, one end of which is beyond 65536 at least.
func notInReach() []api.Span {
	most := number(65536, 0)
	var l []api.Span
	for _, beyond := range []api.Dyad{
		number(65537, 0), number(131072, 0), above(most, -16), above(most, -1000), above(most, -api.MaxBits+17),
		number(1, 17), number(3, 15), number(1, api.MaxExp), number(0xFFFFFFFFFFFFFFF, 1000),
	} {
		less := negative(beyond)
		l = append(l, point(beyond), point(less), between(api.Dyad{}, beyond), between(less, api.Dyad{}),
			between(number(1, 0), beyond), between(less, number(1, 0)), between(negative(most), beyond),
			between(less, most), between(less, beyond), between(most, beyond), between(less, negative(most)))
	}
	return l
}

func TestNilCalc(t *testing.T) {
	spans := append(append(notRight(), notInReach()...), api.Span{}, point(number(1, 0)), between(number(-1, 0), number(1, 0)))
	for _, f := range functions() {
		for _, a := range spans {
			if got := f.call(nil, a); !isZero(got) {
				t.Errorf("%s of a nil calc: %v", f.name, got)
			}
		}
	}
}

// refused tells whether the calc answers zero values to all calls, and is bad.
func refused(c *expo.Calc) bool {
	p := c.P
	for _, f := range functions() {
		for _, a := range []api.Span{{}, point(number(1, 0)), between(number(-1, 0), number(2, 0))} {
			if !isZero(f.call(c, a)) || !c.Bad || c.P != p {
				return false
			}
		}
	}
	return isZero(c.Pi()) && isZero(c.Ln2()) && isZero(c.Num(1)) && c.Bad
}

// spoils tells whether a call of a good calc is refused, and leaves it bad.
func spoils(f function, p int, a api.Span) bool {
	c := calc(p)
	if got := f.call(c, a); !isZero(got) || !c.Bad || c.P != p {
		return false
	}
	return refused(c)
}

func TestBitsThatAreNotRight(t *testing.T) {
	for _, f := range functions() {
		for _, p := range wrongBits() {
			for _, a := range []api.Span{{}, point(number(1, 0)), between(number(-1, 0), number(1, 0)), point(number(1, 17))} {
				if !spoils(f, p, a) {
					t.Errorf("%s of %s with %d bits", f.name, showSpan(a), p)
				}
			}
			c := calc(p)
			f.call(c, api.Span{})
			// Right bits don't mend it.
			if c.P = 53; !refused(c) {
				t.Errorf("%s with %d bits: it is good again", f.name, p)
			}
		}
	}
}

func TestBadCalc(t *testing.T) {
	for _, p := range append(wrongBits(), 16, 53, 7000) {
		c := calc(p)
		c.Bad = true
		if !refused(c) {
			t.Errorf("a bad one of %d bits answers", p)
		}
	}
	for i, spoil := range []func(c *expo.Calc){
		func(c *expo.Calc) { c.Fail() },
		func(c *expo.Calc) { c.Div(c.Num(1), c.Num(0)) },
		func(c *expo.Calc) { c.Root(c.Num(-1)) },
		func(c *expo.Calc) { c.P = 15; c.Pi(); c.P = 53 },
	} {
		c := calc(53)
		if spoil(c); !refused(c) {
			t.Error(i)
		}
	}
}

func TestSpansThatAreNotRight(t *testing.T) {
	for _, f := range functions() {
		for i, a := range notRight() {
			for _, p := range []int{16, 53, 7000} {
				if !spoils(f, p, a) {
					t.Errorf("%s, %d with %d bits", f.name, i, p)
				}
			}
		}
	}
}

func TestSpansThatAreNotInReach(t *testing.T) {
	for _, f := range functions() {
		for _, a := range notInReach() {
			for _, p := range []int{16, 53, 7000} {
				if !spoils(f, p, a) {
					t.Errorf("%s of %s with %d bits", f.name, showSpan(a), p)
				}
			}
		}
	}
}

// What is in reach is answered, as far as its ends go.
func TestReach(t *testing.T) {
	most := number(65536, 0)
	under, _ := minus(most, number(1, -api.MaxBits+16))
	for _, f := range functions() {
		for _, a := range []api.Span{
			point(most), point(negative(most)), between(negative(most), most), point(under), point(negative(under)),
			between(under, most), between(negative(most), negative(under)),
		} {
			for _, p := range []int{16, 53, 1000} {
				answered(t, f, p, a)
			}
		}
	}
}
