package loga_test

import (
	"fmt"
	"math/big"
	"math/bits"
	"testing"

	"volvelle/api"
	"volvelle/dyad"
)

// P0.1, P6.1: what is lost on the way is as little as the remarks tell.

// Numbers near 1: next to nothing is lost by what is worked finely.
func TestLostNear(t *testing.T) {
	for part := range 8 {
		t.Run(fmt.Sprint(part), func(t *testing.T) {
			t.Parallel()
			s := &source{uint64(300 + part)}
			for n := range 200 {
				p := 16 + s.below(300)
				if n%40 == 0 {
					p = 7000 - s.below(3000)
				}
				c := calc(p)
				x := s.around(3, -c.Depth()-s.below(30)*s.below(30))
				in := c.Finer()
				got := in.Near(point(x))
				if in.Bad || in.P != c.Finer().P || !holds(got, x, p+60) || !isWithin(got, p+20) {
					t.Errorf("of %s with %d bits: %s", show(x), p, showSpan(got))
				}
			}
		})
	}
}

// What is left out of the series is held, too. With few bits, and where nothing
// else is lost, that is seen: the arctangent of z lies between z and a third of
// its cube, and z and its cube.
func TestArctangents(t *testing.T) {
	for p := 2; p <= 100; p++ {
		for _, n := range []int64{1, 3, 5, 7, 0xFFFF, 0x10001} {
			for e := -1; e > -p-4; e-- {
				z := number(n, e-bits.Len64(uint64(n)))
				c, other := calc(p), calc(p)
				got, less := c.Arctangent(point(z)), other.Arctangent(point(negative(z)))
				exact := toFloat(z).SetPrec(1000)
				cube := float(1000).Mul(float(1000).Mul(exact, exact), exact)
				low := float(1000).Add(exact, float(1000).Quo(cube, float(2).SetInt64(3)))
				high := float(1000).Add(exact, cube)
				if toFloat(got.Lo).Cmp(high) >= 0 || toFloat(got.Hi).Cmp(low) <= 0 {
					t.Errorf("of %s with %d bits: %s", show(z), p, showSpan(got))
				}
				if c.Bad || other.Bad || c.P != p || !same(less, other.Neg(got)) {
					t.Errorf("of %s with %d bits, and on the other side of 0: %s, %s", show(z), p, showSpan(got), showSpan(less))
				}
			}
		}
	}
}

// Of numbers that are too far from 1 the series tells nothing.
func TestSeriesOutOfReach(t *testing.T) {
	for _, a := range []api.Span{
		point(number(3, -2)), point(number(-1, 0)), between(number(-3, -2), number(1, -3)), between(number(1, -3), number(1, 0)),
	} {
		c := calc(60)
		if got := c.Arctangent(a); !c.Bad || !isZero(got) {
			t.Errorf("of %s: %s", showSpan(a), showSpan(got))
		}
	}
	// Such numbers come of wide spans alone, which no call hands on.
	for _, a := range []api.Span{between(number(1, 40), number(1, 50)), between(number(1, -50), number(1, 50)), {}} {
		c := calc(60)
		if got := c.Far(a); !c.Bad || !isZero(got) || c.P != 60 {
			t.Errorf("of %s: %s", showSpan(a), showSpan(got))
		}
	}
}

// Numbers that are just not near 1 are squared the most often.
func TestLostByRaising(t *testing.T) {
	for _, p := range []int{16, 17, 53, 1000, 7000} {
		c := calc(p)
		for _, x := range []api.Dyad{
			above(one(), -c.Depth()), below(one(), -c.Depth()), number(3, 0), number(1, -1), number(5, 31), number(5, -31),
			number(3, 19000), number(3, -19000),
		} {
			in := c.Finer()
			far, squares := in.Raised(point(x))
			if in.Bad || squares > c.Depth()+6 || !isWithin(far, p+20) {
				t.Errorf("%s with %d bits, squared %d times: %s", show(x), p, squares, showSpan(far))
			}
			power := toFloat(x).SetPrec(uint(p + 200))
			for range squares {
				power.Mul(power, power)
			}
			if size := power.MantExp(nil); max(size, -size) < 31 {
				t.Errorf("%s with %d bits, squared %d times, isn't far from 1", show(x), p, squares)
			}
			if toFloat(far.Lo).Cmp(nextTo(power, p, true)) > 0 || toFloat(far.Hi).Cmp(nextTo(power, p, false)) < 0 {
				t.Errorf("%s with %d bits, squared %d times, isn't in %s", show(x), p, squares, showSpan(far))
			}
		}
	}
}

// nextTo answers what is 2^(-100 - p) of x's size above it, or below: more than
// the tests lose themselves where they square.
func nextTo(x *big.Float, p int, up bool) *big.Float {
	step := float(0).SetMantExp(x, -100-p)
	if !up {
		step.Neg(step)
	}
	return float(x.Prec()+64).Add(x, step)
}

// Numbers far from 1: what is lost is far less than the logarithm's last bits.
func TestLostFar(t *testing.T) {
	for part := range 8 {
		t.Run(fmt.Sprint(part), func(t *testing.T) {
			t.Parallel()
			s := &source{uint64(400 + part)}
			for n := range 100 {
				p := 16 + s.below(300)
				if n%20 == 0 {
					p = 7000 - s.below(6000)
				}
				top := 33 + s.below(100)*s.below(190)
				if s.next()%2 == 0 {
					top = -top
				}
				x := s.number(3, top)
				c := calc(p)
				got := c.Far(point(x))
				if c.Bad || c.P != p || !holds(got, x, p) || !isWithin(got, p-3) {
					t.Errorf("of %s with %d bits: %s", show(x), p, showSpan(got))
				}
			}
		})
	}
}

// Guesses are near, so that few terms are enough; what is rough is near by 40
// bits behind the point, the others by an eighth of all.
func TestGuesses(t *testing.T) {
	s := &source{500}
	for n := range 300 {
		p := 16 + s.below(1000)
		near := -40
		if n%20 == 0 {
			p = 1024 + s.below(5977)
			near = -p / 8
		}
		x := s.number(3, 20000-s.below(40000))
		if n == 0 {
			x = most()
		}
		y := calc(p).Guess(point(x))
		under, over := sum(y, number(-1, near)), sum(y, number(1, near))
		if !holds(between(under, over), x, p) {
			t.Errorf("of %s with %d bits: %s", show(x), p, show(y))
		}
		if order, _ := dyad.Cmp(y, api.Dyad{}); order == 0 {
			t.Errorf("of %s with %d bits: 0", show(x), p)
		}
	}
}
