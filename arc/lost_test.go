package arc_test

import (
	"fmt"
	"math/big"
	"math/bits"
	"testing"

	"volvelle/api"
)

// P0.1, P8.1: what is lost on the way is as little as the remarks tell.

// checkLost tells whether what is worked holds what it should, and is narrow as
// told.
func checkLost(t *testing.T, what string, a api.Span, low, high *big.Float, bits int) {
	t.Helper()
	if !holds(a, low, high) {
		t.Errorf("%s isn't in %s", what, showSpan(a))
	}
	if !isWithin(a, bits) {
		t.Errorf("%s: more is lost than told: %s", what, showSpan(a))
	}
}

// checkWork works the angle of a point above the axis of x as the layer does, and
// looks at what comes of it ahead of being cut.
func checkWork(t *testing.T, p int, y, x api.Dyad) {
	t.Helper()
	y.Neg = false
	in := calc(p).Finer()
	bits, depth := in.P, in.Depth()
	cotangent, halvings := in.Halved(y, x)
	if bits != p+32 || halvings > depth+2 {
		t.Fatalf("%s and %s with %d bits: halved %d times, with %d bits", show(y), show(x), p, halvings, bits)
	}
	if toFloat(cotangent.Lo).Cmp(power(depth)) < 0 {
		t.Errorf("%s and %s with %d bits: what is halved is %s", show(y), show(x), p, showSpan(cotangent))
	}
	small := in.Arctangent(in.Div(in.Num(1), cotangent))
	low, high := bounds(y, x, p+60)
	what := fmt.Sprintf("the angle of %s and %s with %d bits", show(y), show(x), p)
	checkLost(t, what, in.Scale(small, halvings), low, high, p+21)
	if in.Bad || in.P != bits {
		t.Errorf("%s and %s with %d bits: bad %v, or other bits than %d: %d", show(y), show(x), p, in.Bad, bits, in.P)
	}
}

func TestLost(t *testing.T) {
	t.Parallel()
	for part := range 8 {
		t.Run(fmt.Sprint(part), func(t *testing.T) {
			t.Parallel()
			s := &source{uint64(300 + part)}
			for n := range 100 {
				p := 16 + s.below(300)
				if n%50 == 0 {
					p = 7000 - s.below(3000)
				}
				checkWork(t, p, s.number(3, 20-s.below(40)), s.number(3, 20-s.below(40)))
			}
		})
	}
	for _, p := range []int{16, 17, 53, 1000, 7000} {
		for _, x := range []api.Dyad{one(), number(-1, 0), zero(), number(-3, -60), number(5, -60), number(-1, 200), number(9, 40)} {
			checkWork(t, p, one(), x)
			checkWork(t, p, number(7, -2), x)
		}
	}
	for _, x := range []api.Dyad{negative(most()), negative(least()), least()} {
		checkWork(t, 16, one(), x)
		checkWork(t, 16, most(), x)
	}
}

// What is left out of the series is held, too. With few bits that is seen: the
// arctangent of t lies between t less a third of its cube, and that and a fifth of
// its fifth power.
func TestSeries(t *testing.T) {
	for p := 1; p <= 100; p++ {
		for _, n := range []int64{1, 3, 5, 7, 0xFFFF, 0x10001} {
			for e := -1; e > -p-8; e-- {
				x := number(n, e-bits.Len64(uint64(n)))
				exact := toFloat(x).SetPrec(1000)
				square := float(1000).Mul(exact, exact)
				cube := float(1000).Mul(square, exact)
				fifth := float(1000).Mul(cube, square)
				low := float(1000).Sub(exact, cube.Quo(cube, float(4).SetInt64(3)))
				high := float(1000).Add(low, fifth.Quo(fifth, float(4).SetInt64(5)))
				c := calc(p)
				got := c.Arctangent(point(x))
				if toFloat(got.Lo).Cmp(high) >= 0 || toFloat(got.Hi).Cmp(low) <= 0 || c.Bad || c.P != p {
					t.Errorf("the series of %s with %d bits: %s", show(x), p, showSpan(got))
				}
			}
		}
	}
}

// A whole span is worked as well as one of its numbers.
func TestSeriesOfSpans(t *testing.T) {
	for _, p := range []int{2, 16, 80, 500} {
		for _, top := range []int{-1, -4, -60, -2 * p} {
			c := calc(p)
			a := between(number(1, top-3), number(1, top))
			got := c.Arctangent(a)
			for _, x := range []api.Dyad{a.Lo, number(3, top-2), a.Hi} {
				if low, high := bounds(x, one(), p); c.Bad || !holds(got, low, high) {
					t.Errorf("of %s with %d bits: %s has no arctangent of %s", showSpan(a), p, showSpan(got), show(x))
				}
			}
		}
	}
}

// There are as few terms and halvings as the remarks tell.
func TestTermsAndHalvings(t *testing.T) {
	for p := 16; p <= 7000; p++ {
		in := calc(p).Finer()
		depth := in.Depth()
		// A term gains twice the depth, less 1, at least.
		if terms := (in.P-1)/(2*depth-1) + 1; depth < 1 || depth+2 >= 1<<6 || terms >= 1<<7 {
			t.Fatalf("with %d bits: %d halvings, %d terms", p, depth+2, terms)
		}
	}
}
