package series_test

import (
	"math"
	"testing"

	"volvelle/api"
	"volvelle/series"
	"volvelle/span"
)

// P4.1, P0 and R2: calcs that are nil, bad, or of a P that isn't right.

func wrongBits() []int {
	return []int{
		15, 7001, 0, 1, 2, 14, -1, -15, -16, -7000, 7002, api.MaxPrec, api.MaxPrec + 1, 1 << 20,
		math.MaxInt, math.MaxInt - 64, math.MinInt,
	}
}

func TestNilCalc(t *testing.T) {
	for _, x := range constants() {
		if got := x.call(nil); !isZero(got) {
			t.Error(x.name, got)
		}
	}
}

// refused tells whether the calc answers zero values to all calls, and is bad.
func refused(c *series.Calc) bool {
	p := c.P
	for _, x := range constants() {
		if !isZero(x.call(c)) || !c.Bad || c.P != p {
			return false
		}
	}
	return isZero(c.Num(1)) && c.Bad
}

func TestBitsThatAreNotRight(t *testing.T) {
	for _, p := range wrongBits() {
		for _, x := range constants() {
			c := calc(p)
			if got := x.call(c); !isZero(got) || !c.Bad || c.P != p {
				t.Errorf("%s with %d bits: %v, %+v", x.name, p, got, *c)
			}
			if !refused(c) {
				t.Errorf("%s with %d bits: it isn't bad afterwards", x.name, p)
			}
			// Right bits don't mend it.
			c.P = 53
			if !refused(c) {
				t.Errorf("%s with %d bits: it is good again", x.name, p)
			}
		}
	}
}

func TestBadCalc(t *testing.T) {
	for _, p := range append(wrongBits(), 16, 53, 7000) {
		c := calc(p)
		c.Bad = true
		if !refused(c) {
			t.Errorf("a bad one of %d bits answers", p)
		}
	}
}

// A calc goes bad by whatever its work goes bad by.
func TestBadByItsWork(t *testing.T) {
	for i, spoil := range []func(c *series.Calc){
		func(c *series.Calc) { c.Fail() },
		func(c *series.Calc) { c.Work.Fail() },
		func(c *series.Calc) { c.Div(c.Num(1), c.Num(0)) },
		func(c *series.Calc) { c.Root(c.Num(-1)) },
		func(c *series.Calc) { c.Scale(c.Num(1), api.MaxExp+1) },
		func(c *series.Calc) { c.Point(api.Dyad{M: []uint64{2}}) },
		func(c *series.Calc) { c.Add(c.Num(1), api.Span{Lo: api.Dyad{M: []uint64{1}}}) },
	} {
		c := calc(53)
		spoil(c)
		if !refused(c) {
			t.Error(i)
		}
	}
}

// A worker is what a work and a calc have in common.
type worker interface {
	Point(d api.Dyad) api.Span
	Num(n int64) api.Span
	Add(a, b api.Span) api.Span
	Sub(a, b api.Span) api.Span
	Mul(a, b api.Span) api.Span
	Div(a, b api.Span) api.Span
	Root(a api.Span) api.Span
	Neg(a api.Span) api.Span
	Scale(a api.Span, k int) api.Span
	Hull(a, b api.Span) api.Span
	Out(a api.Span) api.Span
	Fail()
}

// calls answers what the calls of a work come to, each of these spans.
func calls(w worker, a, b api.Span) []api.Span {
	return []api.Span{
		w.Point(a.Lo), w.Num(-77), w.Add(a, b), w.Sub(a, b), w.Mul(a, b), w.Hull(a, b),
		w.Neg(a), w.Out(a), w.Scale(a, 5), w.Root(a), w.Div(a, b), w.Div(b, a),
		// Only now does a calc go bad by these, if it does.
		w.Scale(a, api.MaxExp), w.Root(w.Neg(a)), w.Add(a, b), w.Num(1),
	}
}

// A calc works as the work that it embeds: its bits are 1 to api.MaxPrec then.
func TestWorksAsItsWork(t *testing.T) {
	right := &span.Work{P: 80}
	one, two := right.Num(1), right.Num(2)
	third := right.Div(one, right.Num(3))
	for _, p := range []int{1, 2, 15, 16, 53, 7000, 7001, api.MaxPrec, 0, -1, api.MaxPrec + 1} {
		for _, b := range []api.Span{third, right.Num(5), {}, {Lo: two.Lo, Hi: one.Lo}} {
			w, c := &span.Work{P: p}, calc(p)
			want, got := calls(w, third, b), calls(c, third, b)
			for i := range want {
				if !same(got[i], want[i]) {
					t.Errorf("call %d with %d bits: %v, of a work %v", i, p, got[i], want[i])
				}
			}
			if c.Work != *w {
				t.Errorf("with %d bits: %+v, a work %+v", p, *c, *w)
			}
		}
	}
}

// What is enclosed is handed on to the calls of the work.
func TestWorksOn(t *testing.T) {
	c := calc(200)
	rest := c.Sub(c.Pi(), c.Pi())
	if c.Bad || span.Sign(rest) != 0 {
		t.Error("pi less pi", rest)
	}
	if span.Sign(c.Sub(c.Pi(), c.Num(3))) != 1 || span.Sign(c.Sub(c.Ln2(), c.Num(1))) != -1 || c.Bad {
		t.Error("pi less 3, or the logarithm of 2 less 1")
	}
	// Its work goes bad with it, as it is the same one.
	w := &c.Work
	c.P = 7001
	c.Ln2()
	if !w.Bad || !isZero(w.Num(1)) {
		t.Error("the work is good")
	}
}
