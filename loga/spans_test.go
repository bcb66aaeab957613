package loga_test

import (
	"fmt"
	"testing"

	"volvelle/api"
	"volvelle/dyad"
)

// P6.1, of spans of more than one number: what comes of all of them is in what
// is answered, which isn't much wider than that.

// middle answers the number halfway, if it is plain.
func middle(a api.Span) (api.Dyad, bool) {
	both, ok := dyad.Sum(a.Lo, a.Hi)
	half, made := dyad.Make(false, both.M, both.E-1)
	return half, ok && made
}

func hasOne(a api.Span) bool {
	low, _ := dyad.Cmp(a.Lo, one())
	high, _ := dyad.Cmp(one(), a.Hi)
	return low <= 0 && high <= 0
}

func checkSpan(t *testing.T, p int, a api.Span) {
	t.Helper()
	got := answered(t, p, a)
	inside := []api.Dyad{a.Lo, a.Hi}
	if half, ok := middle(a); ok {
		inside = append(inside, half)
		if quarter, ok := middle(between(a.Lo, half)); ok {
			inside = append(inside, quarter)
		}
	}
	if hasOne(a) {
		inside = append(inside, one())
	}
	for _, x := range inside {
		if !holds(got, x, p) {
			t.Errorf("Log of %s, of %s with %d bits, isn't in %s", show(x), showSpan(a), p, showSpan(got))
		}
	}
	if !isTight(got, a, p) {
		t.Errorf("Log of %s with %d bits is wide: %s", showSpan(a), p, showSpan(got))
	}
	// Nothing but the ends tells what is answered.
	if low, high := answered(t, p, point(a.Lo)), answered(t, p, point(a.Hi)); !same(got, between(low.Lo, high.Hi)) {
		t.Errorf("Log of %s with %d bits: %s, of the ends %s and %s", showSpan(a), p, showSpan(got), showSpan(low), showSpan(high))
	}
}

func TestSpans(t *testing.T) {
	two, half, near := number(2, 0), number(1, -1), above(one(), -60)
	for _, p := range []int{16, 53, 300} {
		for _, a := range []api.Span{
			between(two, number(3, 0)), between(half, number(3, -2)), between(one(), two), between(half, one()),
			between(half, two), between(below(one(), -60), near), between(near, two), between(half, near),
			between(one(), near), between(below(one(), -60), one()), between(near, above(near, -300)),
			between(least(), most()), between(least(), one()), between(one(), most()), between(least(), half),
			between(two, most()), between(least(), above(least(), -20200)), between(below(most(), 19800), most()),
			between(two, above(two, -200)), between(half, above(half, -200)), between(number(10, 0), above(number(10, 0), -1000)),
			between(below(one(), -api.MaxBits), above(one(), -api.MaxBits+1)),
		} {
			checkSpan(t, p, a)
		}
	}
	checkSpan(t, 7000, between(least(), most()))
	checkSpan(t, 7000, between(number(3, -2), number(5, -2)))
}

func TestSpansOfAnyEnds(t *testing.T) {
	for part := range 8 {
		t.Run(fmt.Sprint(part), func(t *testing.T) {
			t.Parallel()
			s := &source{uint64(200 + part)}
			for range 100 {
				checkSpan(t, 16+s.below(200), s.span(4))
			}
		})
	}
}

// An end that is 1 is told just: nothing on its other side is answered.
func TestSpansThatEndAtOne(t *testing.T) {
	for _, p := range []int{16, 53, 7000} {
		for _, x := range []api.Dyad{number(2, 0), above(one(), -3000), most()} {
			if got := answered(t, p, between(one(), x)); !sameDyad(got.Lo, api.Dyad{}) || len(got.Hi.M) == 0 {
				t.Errorf("Log of 1 to %s with %d bits: %s", show(x), p, showSpan(got))
			}
		}
		for _, x := range []api.Dyad{number(1, -1), below(one(), -3000), least()} {
			if got := answered(t, p, between(x, one())); !sameDyad(got.Hi, api.Dyad{}) || !got.Lo.Neg {
				t.Errorf("Log of %s to 1 with %d bits: %s", show(x), p, showSpan(got))
			}
		}
	}
}
