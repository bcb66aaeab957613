package expo_test

import (
	"fmt"
	"math/big"
	"testing"

	"volvelle/api"
	"volvelle/dyad"
)

// P5.1, of spans of more than one number: what comes of all of them is in what
// is answered, which isn't much wider than that.

func minus(a, b api.Dyad) (api.Dyad, bool) {
	return dyad.Sum(a, negative(b))
}

// middle answers the number halfway.
func middle(a api.Span) api.Dyad {
	sum, ok := dyad.Sum(a.Lo, a.Hi)
	half, made := dyad.Make(sum.Neg, sum.M, sum.E-1)
	if !ok || !made {
		panic("no plain middle")
	}
	return half
}

func hasZero(a api.Span) bool {
	return (a.Lo.Neg || len(a.Lo.M) == 0) && !a.Hi.Neg
}

// wider answers what is 2^(4 - p) of x's size away from it, upwards or
// downwards.
func wider(x *big.Float, p int, up bool) *big.Float {
	step := float(0).SetMantExp(float(0).Abs(x), 4-p)
	if !up {
		step.Neg(step)
	}
	return float(x.Prec()+64).Add(x, step)
}

func checkSpan(t *testing.T, p int, a api.Span) {
	t.Helper()
	for _, f := range functions() {
		got := answered(t, f, p, a)
		inside := []api.Dyad{a.Lo, middle(a), a.Hi, middle(between(a.Lo, middle(a)))}
		if hasZero(a) {
			inside = append(inside, api.Dyad{})
		}
		var least, greatest *big.Float
		for _, x := range inside {
			low, high := f.bounds(x, p)
			if !holds(got, low, high) {
				t.Errorf("%s of %s, of %s with %d bits, isn't in %s", f.name, show(x), showSpan(a), p, showSpan(got))
			}
			if least == nil || low.Cmp(least) < 0 {
				least = low
			}
			if greatest == nil || high.Cmp(greatest) > 0 {
				greatest = high
			}
		}
		if toFloat(got.Lo).Cmp(wider(least, p, false)) < 0 || toFloat(got.Hi).Cmp(wider(greatest, p, true)) > 0 {
			t.Errorf("%s of %s with %d bits is wide: %s", f.name, showSpan(a), p, showSpan(got))
		}
	}
}

func TestSpans(t *testing.T) {
	one, two, most, near := number(1, 0), number(2, 0), number(65536, 0), number(1, -60)
	for _, p := range []int{16, 53, 300} {
		for _, a := range []api.Span{
			between(one, two), between(negative(two), negative(one)), between(negative(one), two),
			between(negative(two), one), between(api.Dyad{}, one), between(negative(one), api.Dyad{}),
			between(negative(most), most), between(api.Dyad{}, most), between(negative(most), api.Dyad{}),
			between(negative(near), near), between(near, one), between(negative(near), most),
			between(one, above(one, -200)), between(negative(one), above(negative(one), -200)),
			between(negative(one), one), between(api.Dyad{}, near),
		} {
			checkSpan(t, p, a)
		}
	}
	checkSpan(t, 7000, between(number(-65536, 0), number(1, 0)))
}

func TestSpansOfAnyEnds(t *testing.T) {
	for part := range 8 {
		t.Run(fmt.Sprint(part), func(t *testing.T) {
			t.Parallel()
			s := &source{uint64(200 + part)}
			for range 150 {
				checkSpan(t, 16+s.below(200), s.span(4, 16-s.below(30)))
			}
		})
	}
}

// Cosh turns at 0: there it is 1, and nothing less.
func TestCoshOfSpansThatHoldZero(t *testing.T) {
	one := number(1, 0)
	for _, p := range []int{16, 53, 7000} {
		for _, a := range []api.Span{
			between(negative(one), number(3, 0)), between(api.Dyad{}, one), between(negative(one), api.Dyad{}),
			between(number(-1, -300), number(1, -300)), between(number(-65536, 0), number(65536, 0)),
		} {
			got := calc(p).Cosh(a)
			if !sameDyad(got.Lo, one) {
				t.Errorf("Cosh of %s with %d bits: %s", showSpan(a), p, showSpan(got))
			}
		}
		got := calc(p).Sinh(between(api.Dyad{}, one))
		if !sameDyad(got.Lo, api.Dyad{}) {
			t.Errorf("Sinh of 0 to 1 with %d bits: %s", p, showSpan(got))
		}
		got = calc(p).Exp(between(api.Dyad{}, one))
		if !sameDyad(got.Lo, one) {
			t.Errorf("Exp of 0 to 1 with %d bits: %s", p, showSpan(got))
		}
	}
}
