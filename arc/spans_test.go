package arc_test

import (
	"fmt"
	"math/big"
	"testing"

	"volvelle/api"
	"volvelle/arc"
	"volvelle/dyad"
	"volvelle/span"
)

// P8.1, of spans of more than one number: what comes of all of them is in what is
// answered, which isn't much wider than that.

// extent answers bounds of the least and of the greatest angle at the corners.
// Between them no other is less or greater.
func extent(y, x api.Span, p int) (low, high *big.Float) {
	for _, y := range []api.Dyad{y.Lo, y.Hi} {
		for _, x := range []api.Dyad{x.Lo, x.Hi} {
			under, over := bounds(y, x, p)
			if low == nil || under.Cmp(low) < 0 {
				low = under
			}
			if high == nil || over.Cmp(high) > 0 {
				high = over
			}
		}
	}
	return low, high
}

// isTight tells whether no end is farther off than what is answered of one point
// is wide at most.
func isTight(got api.Span, low, high *big.Float, p int) bool {
	return isNear(toFloat(got.Lo), low, p) && isNear(toFloat(got.Hi), high, p)
}

func isNear(end, bound *big.Float, p int) bool {
	off := float(1<<15).Sub(end, bound)
	if end.Sign() == 0 {
		return bound.Sign() == 0
	}
	size := float(64).Abs(end)
	return off.Abs(off).Cmp(size.SetMantExp(size, 4-p)) <= 0
}

// middle answers the number halfway, if it is plain and in reach.
func middle(a api.Span) (api.Dyad, bool) {
	both, ok := dyad.Sum(a.Lo, a.Hi)
	half, made := dyad.Make(both.Neg, both.M, both.E-1)
	return half, ok && made && (isNought(half) || sameDyad(half, inReach(half)))
}

// inside answers numbers of a span, and its ends.
func inside(a api.Span) []api.Dyad {
	l := []api.Dyad{a.Lo, a.Hi}
	if half, ok := middle(a); ok {
		l = append(l, half)
		if quarter, ok := middle(between(a.Lo, half)); ok {
			l = append(l, quarter)
		}
	}
	if span.Sign(a) == 0 {
		l = append(l, zero())
	}
	return l
}

func checkNumbers(t *testing.T, p int, a api.Span) {
	t.Helper()
	for _, a := range []api.Span{a, mirrored(a)} {
		got := arctangents(t, p, a)
		low, high := extent(a, point(one()), p)
		if !holds(got, low, high) || !isTight(got, low, high, p) {
			t.Errorf("Atan of %s with %d bits: %s", showSpan(a), p, showSpan(got))
		}
		for _, y := range inside(a) {
			if low, high := bounds(y, one(), p); !holds(got, low, high) {
				t.Errorf("Atan of %s, of %s with %d bits, isn't in %s", show(y), showSpan(a), p, showSpan(got))
			}
		}
	}
}

// isCut tells whether points of the spans lie on the axis of x, and not to the
// right.
func isCut(y, x api.Span) bool {
	low, _ := dyad.Cmp(y.Lo, zero())
	high, _ := dyad.Cmp(y.Hi, zero())
	left, _ := dyad.Cmp(x.Lo, zero())
	return low <= 0 && high >= 0 && left <= 0
}

// checkPoints checks the spans, and these beyond the axes: those that are cut
// spoil the calc.
func checkPoints(t *testing.T, p int, y, x api.Span) {
	t.Helper()
	for _, y := range []api.Span{y, mirrored(y)} {
		for _, x := range []api.Span{x, mirrored(x)} {
			if isCut(y, x) {
				if c := calc(p); !isZero(c.Atan2(y, x)) || !c.Bad {
					t.Errorf("Atan2 of %s and %s with %d bits, which is cut", showSpan(y), showSpan(x), p)
				}
				continue
			}
			got := angles(t, p, y, x)
			low, high := extent(y, x, p)
			if !holds(got, low, high) || !isTight(got, low, high, p) {
				t.Errorf("Atan2 of %s and %s with %d bits: %s", showSpan(y), showSpan(x), p, showSpan(got))
			}
			for i, y := range inside(y) {
				l := inside(x)
				x := l[(i+p)%len(l)]
				if low, high := bounds(y, x, p); !holds(got, low, high) {
					t.Errorf("the angle of %s and %s with %d bits isn't in %s", show(y), show(x), p, showSpan(got))
				}
			}
		}
	}
}

func TestSpansOfNumbers(t *testing.T) {
	two, half, near0 := number(2, 0), number(1, -1), number(1, -60)
	for _, p := range []int{16, 53, 300} {
		for _, a := range []api.Span{
			between(one(), two), between(negative(one()), two), between(zero(), one()), between(zero(), near0),
			between(negative(near0), near0), between(negative(near0), one()), between(near0, one()),
			between(number(-1, -300), two), between(half, one()), between(below(one(), -300), one()),
			between(one(), above(one(), -200)), between(two, number(1, 500)), between(negative(most()), number(1, 3000)),
			between(number(-3, 0), number(5, 0)), between(zero(), most()), between(negative(most()), most()),
		} {
			checkNumbers(t, p, a)
		}
	}
}

// All nine places that a span of points may have at the axes, narrow and wide.
func TestSpansOfPoints(t *testing.T) {
	one, three := one(), number(3, 0)
	l := []api.Span{
		between(one, three), between(number(-5, -2), three), between(zero(), three), between(number(-3, 0), zero()),
		between(number(-3, 0), one), point(one), point(zero()), between(number(1, -70), number(1, 70)),
		between(number(7, -3), one), between(number(-1, -80), number(3, -90)),
	}
	for _, p := range []int{16, 53, 300} {
		for _, y := range l {
			for _, x := range l {
				checkPoints(t, p, y, x)
			}
		}
	}
}

// Where the angle leaps: spans that reach the axis of x to the left, or just
// don't.
func TestAboutTheCut(t *testing.T) {
	step, off := least(), number(-7, 0)
	for _, p := range []int{16, 53, 7000} {
		for _, x := range []api.Span{
			point(off), between(off, negative(step)), between(off, zero()), between(off, one()), point(zero()),
			between(zero(), one()), between(negative(step), one()), between(negative(most()), most()), point(negative(most())),
		} {
			for _, y := range []api.Span{
				point(zero()), between(zero(), step), between(negative(step), zero()), between(negative(step), step),
				between(number(-1, 0), step), between(zero(), most()), between(negative(most()), most()),
			} {
				if !isCut(y, x) {
					t.Fatal("the tests' own cut")
				}
				if !spoils(p, y, x) {
					t.Errorf("Atan2 of %s and %s with %d bits", showSpan(y), showSpan(x), p)
				}
			}
		}
	}
	for _, p := range []int{16, 53} {
		for _, x := range []api.Span{point(off), between(off, zero()), between(off, one()), between(zero(), one()), between(step, one())} {
			for _, y := range []api.Span{point(step), between(step, one()), between(negative(one()), negative(step))} {
				checkPoints(t, p, y, x)
			}
		}
		for _, x := range []api.Span{point(step), between(step, one()), between(number(7, 0), number(1, 200))} {
			for _, y := range []api.Span{
				between(zero(), step), between(negative(step), zero()), between(negative(one()), step), between(number(-9, 0), number(9, 0)),
			} {
				checkRight(t, p, y, x)
			}
		}
	}
}

// checkRight checks spans that the axis of x cuts to the right.
func checkRight(t *testing.T, p int, y, x api.Span) {
	t.Helper()
	got := angles(t, p, y, x)
	low, high := extent(y, x, p)
	if !holds(got, low, high) || !isTight(got, low, high, p) {
		t.Errorf("Atan2 of %s and %s with %d bits: %s", showSpan(y), showSpan(x), p, showSpan(got))
	}
}

func TestSpansOfAnyEnds(t *testing.T) {
	t.Parallel()
	for part := range 8 {
		t.Run(fmt.Sprint(part), func(t *testing.T) {
			t.Parallel()
			s := &source{uint64(200 + part)}
			for range 40 {
				p := 16 + s.below(200)
				y, x := s.little(), s.little()
				checkNumbers(t, p, y)
				checkPoints(t, p, y, x)
			}
		})
	}
}

// little answers a span of no ends that take long to look at.
func (s *source) little() api.Span {
	for {
		a := s.span(4)
		if all := append(inside(a), one()); !slow(all) {
			return a
		}
	}
}

// slow tells whether some number is that near 0, or that great.
func slow(l []api.Dyad) bool {
	for _, d := range l {
		if !isNought(d) && max(topOf(d), -topOf(d)) > 400 {
			return true
		}
	}
	return false
}

// An end that is 0 is told just.
func TestZeroAtAnEnd(t *testing.T) {
	for _, p := range []int{16, 53, 7000} {
		for _, far := range []api.Dyad{one(), least(), most(), number(5, -3)} {
			up, down := between(zero(), far), between(negative(far), zero())
			for _, got := range []api.Span{
				arctangents(t, p, up), angles(t, p, up, point(one())), angles(t, p, up, between(number(1, -3), number(9, 0))),
			} {
				if !isNought(got.Lo) || isNought(got.Hi) {
					t.Errorf("of %s with %d bits: %s", showSpan(up), p, showSpan(got))
				}
			}
			for _, got := range []api.Span{
				arctangents(t, p, down), angles(t, p, down, point(one())), angles(t, p, down, between(number(1, -3), number(9, 0))),
			} {
				if !isNought(got.Hi) || isNought(got.Lo) {
					t.Errorf("of %s with %d bits: %s", showSpan(down), p, showSpan(got))
				}
			}
		}
	}
}

// Spans at both bounds of what is in reach.
func TestSpansOfAllInReach(t *testing.T) {
	for _, p := range []int{16, 7000} {
		all := between(negative(most()), most())
		got := arctangents(t, p, all)
		if !holds(got, float(8).SetFloat64(-1.57), float(8).SetFloat64(1.57)) || holds(got, float(16).SetFloat64(-1.58), float(64)) {
			t.Error(showSpan(got))
		}
		got = angles(t, p, between(least(), most()), all)
		if !holds(got, float(64).SetFloat64(0.001), float(64).SetFloat64(3.1411)) || got.Lo.Neg || toFloat(got.Hi).Cmp(float(64).SetFloat64(3.1421)) > 0 {
			t.Error(showSpan(got))
		}
		got = angles(t, p, all, between(least(), most()))
		if !holds(got, float(64).SetFloat64(-1.57), float(64).SetFloat64(1.57)) {
			t.Error(showSpan(got))
		}
	}
}

// Long spans next to the axis of x, and such that go all round but for it.
func TestNearlyAllRound(t *testing.T) {
	c := &arc.Calc{}
	c.P = 60
	little := c.Scale(c.Num(1), -50)
	around := c.Atan2(c.Hull(little, c.Num(1)), c.Hull(c.Num(-1), c.Num(1)))
	low, high := bounds(number(1, -50), one(), 60)
	_, left := bounds(number(1, -50), number(-1, 0), 60)
	if c.Bad || !holds(around, low, left) || !isTight(around, low, left, 60) || high.Cmp(left) > 0 {
		t.Error(showSpan(around))
	}
}
