package circ_test

import (
	"fmt"
	"math/big"
	"math/bits"
	"testing"

	"volvelle/api"
	"volvelle/circ"
)

// P0.1, P7.1: what is lost on the way is as little as the remarks tell.

// checkLost tells whether what is worked holds what it should, and is 2 to the
// top wide at most.
func checkLost(t *testing.T, what string, a api.Span, low, high *big.Float, top int) {
	t.Helper()
	if !holds(a, low, high) {
		t.Errorf("%s isn't in %s", what, showSpan(a))
	}
	if width(a).Cmp(power(top)) > 0 {
		t.Errorf("%s: more is lost than told: %s", what, showSpan(a))
	}
}

// over answers bounds of what the sine's are over x.
func over(low, high *big.Float, x api.Dyad) (*big.Float, *big.Float) {
	exact := toFloat(x)
	bits := low.Prec()
	low, high = float(bits).Quo(low, exact), float(bits).Quo(high, exact)
	if x.Neg {
		low, high = high, low
	}
	unit := float(1).SetMantExp(float(1).SetInt64(1), 10-int(bits))
	unit.SetMantExp(unit, max(-exact.MantExp(nil), 0)+30)
	return float(bits).Sub(low, unit), float(bits).Add(high, unit)
}

// checkWork works sine and cosine of x as the layer does, and looks at what comes
// of each step.
func checkWork(t *testing.T, p int, x api.Dyad) {
	t.Helper()
	c := calc(p)
	in, square, halvings := c.Halved(x)
	bits := in.P
	if bits > api.MaxPrec || halvings > c.Depth()+17 {
		t.Fatalf("%s with %d bits: halved %d times, with %d bits", show(x), p, halvings, bits)
	}
	small := x
	small.E -= halvings
	if toFloat(size(small)).Cmp(power(-c.Depth())) > 0 {
		t.Errorf("%s with %d bits: what is halved is %s", show(x), p, show(small))
	}
	ratio, cos := in.Series(square, 1), in.Series(square, 0)
	low, high := sine().bounds(small, 2*bits)
	low, high = over(low, high, small)
	checkLost(t, fmt.Sprintf("the series of sine over it of %s with %d bits", show(x), p), ratio, low, high, 10-bits)
	low, high = cosine().bounds(small, 2*bits)
	checkLost(t, fmt.Sprintf("the series of cosine of %s with %d bits", show(x), p), cos, low, high, 10-bits)
	for range halvings {
		ratio, cos = in.Mul(ratio, cos), in.Doubled(cos)
	}
	low, high = cosine().bounds(x, 2*bits)
	checkLost(t, fmt.Sprintf("the cosine of %s with %d bits", show(x), p), cos, low, high, -p-19)
	low, high = sine().bounds(x, 2*bits)
	low, high = over(low, high, x)
	top := max(toFloat(x).MantExp(nil), 0)
	checkLost(t, fmt.Sprintf("the sine over it of %s with %d bits", show(x), p), ratio, low, high, -p-18-top)
	if in.Bad || in.P != bits || c.Bad || c.P != p {
		t.Errorf("%s with %d bits: bad %v, or other bits than %d: %d", show(x), p, in.Bad, bits, in.P)
	}
}

func TestLost(t *testing.T) {
	t.Parallel()
	for part := range 8 {
		t.Run(fmt.Sprint(part), func(t *testing.T) {
			t.Parallel()
			s := &source{uint64(300 + part)}
			for n := range 150 {
				p := 16 + s.below(300)
				if n%50 == 0 {
					p = 7000 - s.below(3000)
				}
				checkWork(t, p, s.anywhere(3))
			}
		})
	}
	for _, p := range []int{16, 17, 53, 1000, 7000} {
		for _, x := range []api.Dyad{
			most(), below(most(), -30), number(1, 0), number(1, -1), number(3, -1), near(1, 50), near(2, p), near(41721, 2*p),
			number(1, -calc(p).Depth()), below(number(1, -calc(p).Depth()), -200),
		} {
			checkWork(t, p, x)
			checkWork(t, p, negative(x))
		}
	}
}

// What is left out of the series is held, too. With few bits that is seen: of w
// they lie between 1 less w over 2 or 6, and that and a 24th of w's square.
func TestSeries(t *testing.T) {
	for p := 1; p <= 100; p++ {
		for _, n := range []int64{1, 3, 5, 7, 0xFFFF, 0x10001} {
			for e := -2; e > -2*p-8; e-- {
				w := number(n, e-bits.Len64(uint64(n)))
				exact := toFloat(w).SetPrec(1000)
				one := float(1).SetInt64(1)
				square := float(1000).Quo(float(1000).Mul(exact, exact), float(10).SetInt64(24))
				for odd, by := range []int64{2, 6} {
					c := calc(p)
					got := c.Series(point(w), int64(odd))
					low := float(1000).Sub(one, float(1000).Quo(exact, float(4).SetInt64(by)))
					high := float(1000).Add(low, square)
					if toFloat(got.Lo).Cmp(high) >= 0 || toFloat(got.Hi).Cmp(low) <= 0 || c.Bad || c.P != p {
						t.Errorf("the series of %s with %d bits, over %d: %s", show(w), p, by, showSpan(got))
					}
				}
			}
		}
	}
}

// A whole span of squares, down to 0, is worked as well as one of them.
func TestSeriesOfSpans(t *testing.T) {
	for _, p := range []int{1, 2, 16, 80, 500} {
		for _, top := range []int{-2, -4, -60, -2 * p} {
			for odd := range int64(2) {
				c := calc(p)
				got := c.Series(between(api.Dyad{}, number(1, top)), odd)
				end := c.Series(point(number(1, top)), odd)
				if c.Bad || toFloat(got.Hi).Cmp(power(0)) < 0 || toFloat(got.Lo).Cmp(toFloat(end.Hi)) > 0 {
					t.Errorf("of 0 to 2^%d with %d bits: %s, of its end %s", top, p, showSpan(got), showSpan(end))
				}
			}
		}
	}
}

// There are as few terms as the remarks tell, and each has fewer bits than the
// one ahead.
func TestLengths(t *testing.T) {
	for p := 16; p <= 7000; p++ {
		c := calc(p)
		in, square, _ := c.Halved(number(1, -c.Depth()))
		l := in.Lengths(square, 0)
		if len(l) == 0 || len(l) >= 1<<8 || l[0] != in.P || l[len(l)-1] < 1 {
			t.Fatalf("with %d bits: %v", p, l)
		}
		for i := range l[1:] {
			if l[i+1] >= l[i] {
				t.Fatalf("with %d bits: %v", p, l)
			}
		}
	}
}

func TestWholeNumbers(t *testing.T) {
	for n := int64(-70000); n <= 70000; n += 1 + max(n, -n)/100 {
		if circ.Floor(number(n, 0)) != n || circ.Ceiling(number(n, 0)) != n {
			t.Errorf("of %d: %d, %d", n, circ.Floor(number(n, 0)), circ.Ceiling(number(n, 0)))
		}
		for _, off := range []int{-1, -2, -60, -64, -65, -1000, -16000} {
			over, under := above(number(n, 0), off), below(number(n, 0), off)
			if circ.Floor(over) != n || circ.Ceiling(over) != n+1 {
				t.Errorf("above %d by 2^%d: %d, %d", n, off, circ.Floor(over), circ.Ceiling(over))
			}
			if circ.Floor(under) != n-1 || circ.Ceiling(under) != n {
				t.Errorf("below %d by 2^%d: %d, %d", n, off, circ.Floor(under), circ.Ceiling(under))
			}
		}
	}
	least := number(1, -api.MaxExp)
	if circ.Floor(least) != 0 || circ.Ceiling(least) != 1 || circ.Floor(negative(least)) != -1 || circ.Ceiling(negative(least)) != 0 {
		t.Error("of the least number")
	}
}
