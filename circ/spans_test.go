package circ_test

import (
	"fmt"
	"math/big"
	"testing"

	"volvelle/api"
	"volvelle/dyad"
)

// P7.1, of spans of more than one number: what comes of all of them is in what
// is answered, which isn't much wider than that.

// halfTurns answers the greatest whole number of half turns that isn't above x,
// once it is ahead by as many quarters as the function asks for.
func (f function) halfTurns(x api.Dyad) int64 {
	// Enough to tell on which side of a turn a number lies that is next to it, of
	// those that have as many bits.
	bits := min(uint(max(-x.E, 0)+500), 1<<15)
	ahead := float(bits).Mul(quarter(bits), float(64).SetInt64(f.quarters))
	ahead.Add(ahead, toFloat(x))
	turns := float(bits).Quo(ahead, float(bits).Mul(quarter(bits), float(2).SetInt64(2)))
	whole, _ := turns.Int64()
	if turns.Sign() < 0 && !turns.IsInt() {
		whole--
	}
	return whole
}

// turns answers what the function is where it turns in a span of more than one
// number, 1 or -1, as often as it must be known. 0 is a turn of Cos itself.
func (f function) turns(a api.Span) []*big.Float {
	var l []*big.Float
	last := f.halfTurns(a.Hi)
	for n := f.halfTurns(a.Lo) + 1; n <= last && len(l) < 2; n++ {
		l = append(l, float(2).SetInt64(1-2*(n&1)))
	}
	return l
}

// extent answers bounds of the least and of the greatest that the function comes
// to in a span.
func (f function) extent(a api.Span, p int) (low, high *big.Float) {
	low, high = f.bounds(a.Lo, p)
	under, over := f.bounds(a.Hi, p)
	low, high = lesser(low, under), greater(high, over)
	for _, x := range f.turns(a) {
		low, high = lesser(low, x), greater(high, x)
	}
	return low, high
}

func lesser(a, b *big.Float) *big.Float {
	if a.Cmp(b) < 0 {
		return a
	}
	return b
}

func greater(a, b *big.Float) *big.Float {
	if a.Cmp(b) > 0 {
		return a
	}
	return b
}

// middle answers the number halfway, if it is plain.
func middle(a api.Span) (api.Dyad, bool) {
	both, ok := dyad.Sum(a.Lo, a.Hi)
	half, made := dyad.Make(both.Neg, both.M, both.E-1)
	return half, ok && made
}

func checkSpan(t *testing.T, f function, p int, a api.Span) {
	t.Helper()
	got := answered(t, f, p, a)
	low, high := f.extent(a, p)
	if !holds(got, low, high) {
		t.Errorf("%s of %s with %d bits isn't in %s", f.name, showSpan(a), p, showSpan(got))
	}
	// Inside nothing lies beyond, whatever the tests take for the extent.
	if half, ok := middle(a); ok {
		inside := []api.Dyad{half}
		for _, part := range []api.Span{between(a.Lo, half), between(half, a.Hi)} {
			if x, ok := middle(part); ok {
				inside = append(inside, x)
			}
		}
		for _, x := range inside {
			if low, high := f.bounds(x, p); !holds(got, low, high) {
				t.Errorf("%s of %s, of %s with %d bits, isn't in %s", f.name, show(x), showSpan(a), p, showSpan(got))
			}
		}
	}
	limit := power(4 - p)
	under, over := float(1<<15).Sub(low, limit), float(1<<15).Add(high, limit)
	if toFloat(got.Lo).Cmp(under) < 0 || toFloat(got.Hi).Cmp(over) > 0 {
		t.Errorf("%s of %s with %d bits is wide: %s", f.name, showSpan(a), p, showSpan(got))
	}
	// The chapter's own bound.
	wide := float(1<<15).SetMantExp(width(a), 1)
	if width(got).Cmp(wide.Add(wide, limit)) > 0 {
		t.Errorf("%s of %s with %d bits is wider than told: %s", f.name, showSpan(a), p, showSpan(got))
	}
}

// checkSpans checks a span, and that on the other side of 0.
func checkSpans(t *testing.T, p int, a api.Span) {
	t.Helper()
	for _, f := range functions() {
		checkSpan(t, f, p, a)
		checkSpan(t, f, p, between(negative(a.Hi), negative(a.Lo)))
	}
}

func TestSpans(t *testing.T) {
	one, two, half, near0 := number(1, 0), number(2, 0), number(1, -1), number(1, -60)
	for _, p := range []int{16, 53, 300} {
		for _, a := range []api.Span{
			between(one, two), between(negative(one), two), between(api.Dyad{}, one), between(api.Dyad{}, near0),
			between(negative(near0), near0), between(negative(near0), one), between(near0, one), between(number(-1, -300), two),
			between(half, one), between(near0, half), between(below(half, -300), half), between(one, above(one, -200)),
			between(two, number(4, 0)), between(one, number(3, 0)), between(number(3, 0), number(4, 0)),
			between(number(4, 0), number(5, 0)), between(api.Dyad{}, number(3, 0)), between(api.Dyad{}, number(6, 0)),
			between(number(5, 0), number(8, 0)), between(number(7, 0), number(11, 0)), between(number(7, 0), number(13, 0)),
			between(number(-3, 0), number(3, 0)), between(number(-5, -2), number(7, -2)), between(number(-9, 0), one),
		} {
			checkSpans(t, p, a)
		}
	}
}

// Whole turns, and more, and but for a little.
func TestWideSpans(t *testing.T) {
	one := number(1, 0)
	for _, p := range []int{16, 53, 300} {
		for _, a := range []api.Span{
			between(api.Dyad{}, most()), between(negative(most()), most()), between(one, number(100, 0)),
			between(number(-7, 0), number(7, 0)), between(number(10, 0), number(17, 0)), between(number(65529, 0), most()),
			between(number(65530, 0), most()), between(number(65531, 0), most()), between(number(65534, 0), most()),
			between(number(65535, 0), most()), between(one, number(9, 0)), between(number(100, 0), number(50000, 0)),
		} {
			checkSpans(t, p, a)
		}
		for _, a := range []api.Span{
			between(api.Dyad{}, number(7, 0)), between(number(65529, 0), most()), between(negative(most()), most()),
		} {
			for _, f := range functions() {
				if got := answered(t, f, p, a); !same(got, between(negative(one), one)) {
					t.Errorf("%s of %s with %d bits: %s", f.name, showSpan(a), p, showSpan(got))
				}
			}
		}
	}
	for _, f := range functions() {
		checkSpan(t, f, 7000, between(number(-65536, 0), one))
		checkSpan(t, f, 7000, between(one, number(5, -1)))
		checkSpan(t, f, 7000, between(number(5, -1), number(4, 0)))
	}
}

// Spans whose ends lie just on one side of quarters of a turn, or on both.
func TestSpansAboutQuarters(t *testing.T) {
	t.Parallel()
	for part, p := range []int{16, 17, 53, 100} {
		t.Run(fmt.Sprint(p), func(t *testing.T) {
			t.Parallel()
			for i, n := range quarters() {
				for _, behind := range []int{4, p/2 + 50, 2*p + 100} {
					x := near(n, behind)
					low, high := below(x, -behind), above(x, -behind)
					next := near(n-1-int64(i+part)%5, behind)
					for _, a := range []api.Span{
						between(low, high), between(below(low, -behind), low), between(high, above(high, -behind)), between(low, x),
						between(x, high), between(next, low), between(next, high), between(above(next, -behind), x),
						between(below(next, -behind), x),
					} {
						checkSpans(t, p, a)
					}
				}
			}
		})
	}
}

// As near as ends of all bits lie to quarters: on which side of the turn they
// are isn't told where it makes no odds.
func TestSpansVeryNearQuarters(t *testing.T) {
	t.Parallel()
	for _, p := range []int{16, 7000} {
		for _, n := range []int64{1, 2, 41720, 41721} {
			x := near(n, 16300)
			for _, a := range []api.Span{
				between(below(x, -16300), above(x, -16300)), between(x, above(x, -16300)), between(below(x, -16300), x),
				between(below(x, -1), x), between(x, above(x, -1)), between(below(x, -1), above(x, -1)),
			} {
				for _, f := range functions() {
					checkSpan(t, f, p, a)
				}
			}
		}
	}
}

func TestSpansOfAnyEnds(t *testing.T) {
	t.Parallel()
	for part := range 8 {
		t.Run(fmt.Sprint(part), func(t *testing.T) {
			t.Parallel()
			s := &source{uint64(200 + part)}
			for range 150 {
				checkSpans(t, 16+s.below(200), s.span(4))
			}
		})
	}
}

// Both ends of what is answered: a turn inside is told just, and so is an end
// that is 0.
func TestTurnsAreJust(t *testing.T) {
	one := number(1, 0)
	for _, p := range []int{16, 53, 7000} {
		for _, x := range []struct {
			f    function
			a    api.Span
			just api.Dyad
			up   bool
		}{
			{sine(), between(one, number(2, 0)), one, true},
			{sine(), between(number(-2, 0), number(-1, 0)), negative(one), false},
			{sine(), between(number(4, 0), number(5, 0)), negative(one), false},
			{sine(), between(api.Dyad{}, one), api.Dyad{}, false},
			{sine(), between(api.Dyad{}, number(3, 0)), api.Dyad{}, false},
			{sine(), between(number(-1, 0), api.Dyad{}), api.Dyad{}, true},
			{cosine(), between(number(-1, 0), one), one, true},
			{cosine(), between(api.Dyad{}, one), one, true},
			{cosine(), between(number(-1, 0), api.Dyad{}), one, true},
			{cosine(), between(number(3, 0), number(4, 0)), negative(one), false},
			{cosine(), between(number(6, 0), number(7, 0)), one, true},
		} {
			got := answered(t, x.f, p, x.a)
			end := got.Lo
			if x.up {
				end = got.Hi
			}
			if !sameDyad(end, x.just) {
				t.Errorf("%s of %s with %d bits: %s", x.f.name, showSpan(x.a), p, showSpan(got))
			}
		}
	}
}

// Of numbers below 1/2 in size Sin rises: its ends tell it, as narrow as they are
// told themselves.
func TestSinOfSmallSpans(t *testing.T) {
	s := &source{31}
	for range 300 {
		p := 16 + s.below(300)
		a := ordered(s.number(2, -1-s.below(90)), s.number(2, -1-s.below(90)))
		low, high := answered(t, sine(), p, point(a.Lo)), answered(t, sine(), p, point(a.Hi))
		if got := answered(t, sine(), p, a); !same(got, between(low.Lo, high.Hi)) {
			t.Errorf("Sin of %s with %d bits: %s", showSpan(a), p, showSpan(got))
		}
	}
}
