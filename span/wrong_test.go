package span_test

import (
	"math"
	"testing"

	"volvelle/api"
	"volvelle/span"
)

// P3.1, P0 and R2: works that are nil, bad, or of a P that isn't right; spans
// that aren't right.

// named is a call of the layer, with a name for what is told of it.
type named struct {
	name string
	made call
}

// calls answers each call of the layer with these spans, numbers and all.
func calls(a, b api.Span) []named {
	return []named{
		{"Point", func(w *span.Work) api.Span { return w.Point(a.Lo) }},
		{"Num", func(w *span.Work) api.Span { return w.Num(5) }},
		{"Add", func(w *span.Work) api.Span { return w.Add(a, b) }},
		{"Sub", func(w *span.Work) api.Span { return w.Sub(a, b) }},
		{"Mul", func(w *span.Work) api.Span { return w.Mul(a, b) }},
		{"Div", func(w *span.Work) api.Span { return w.Div(a, b) }},
		{"Root", func(w *span.Work) api.Span { return w.Root(a) }},
		{"Neg", func(w *span.Work) api.Span { return w.Neg(a) }},
		{"Scale", func(w *span.Work) api.Span { return w.Scale(a, 3) }},
		{"Hull", func(w *span.Work) api.Span { return w.Hull(a, b) }},
		{"Out", func(w *span.Work) api.Span { return w.Out(a) }},
	}
}

func TestNilWork(t *testing.T) {
	var none *span.Work
	none.Fail()
	spans := append(notRight(), api.Span{}, ints(1, 2), ints(-3, 4))
	for _, a := range spans {
		for _, c := range calls(a, ints(1, 2)) {
			if got := c.made(none); !same(got, api.Span{}) {
				t.Errorf("%s of nil: %v", c.name, show(got))
			}
		}
	}
}

func TestGoodWorkStaysGood(t *testing.T) {
	for _, p := range []int{1, 2, 53, api.MaxPrec - 1, api.MaxPrec} {
		w := &span.Work{P: p}
		for _, c := range calls(ints(1, 5), ints(-7, -3)) {
			got := c.made(w)
			if w.Bad || w.P != p || same(got, api.Span{}) {
				t.Errorf("%s with %d bits: %v, %+v", c.name, p, show(got), *w)
			}
		}
	}
}

func TestBadWorkStaysBad(t *testing.T) {
	for _, p := range []int{1, 53, api.MaxPrec, 0, -1, api.MaxPrec + 1} {
		w := &span.Work{P: p, Bad: true}
		for range 2 {
			for _, c := range calls(ints(1, 5), ints(-7, -3)) {
				if got := c.made(w); !same(got, api.Span{}) || !w.Bad || w.P != p {
					t.Errorf("%s of a bad work: %v, %+v", c.name, show(got), *w)
				}
			}
		}
	}
}

func TestBitsThatAreNotRight(t *testing.T) {
	for _, p := range []int{0, -1, -53, math.MinInt, api.MaxPrec + 1, api.MaxPrec * 2, math.MaxInt} {
		for _, c := range calls(ints(1, 5), ints(-7, -3)) {
			refused(t, span.Work{P: p}, c.made, c.name)
		}
		for _, c := range calls(api.Span{}, ints(1, 1)) {
			refused(t, span.Work{P: p}, c.made, c.name, "of 0")
		}
	}
}

// A P that is set right again doesn't mend the work.
func TestMendedBits(t *testing.T) {
	w := &span.Work{}
	w.Num(1)
	w.P = 53
	if got := w.Num(1); !same(got, api.Span{}) || !w.Bad {
		t.Error(got, w)
	}
}

func TestFail(t *testing.T) {
	w := &span.Work{P: 53}
	w.Fail()
	if !w.Bad || w.P != 53 {
		t.Error(w)
	}
	w.Fail()
	if !w.Bad || w.P != 53 {
		t.Error("a second time", w)
	}
	for _, c := range calls(ints(1, 5), ints(-7, -3)) {
		refused(t, *w, c.made, c.name)
	}
}

// Each call that is handed a wrong span, in whichever place, makes the work
// bad, and it stays so for what is right.
func TestSpansThatAreNotRight(t *testing.T) {
	right := ints(1, 5)
	good := span.Work{P: 53}
	for _, wrong := range notRight() {
		for _, c := range calls(wrong, right) {
			if c.name == "Num" || c.name == "Point" {
				continue
			}
			refused(t, good, c.made, c.name, show(wrong))
		}
		for _, c := range calls(right, wrong) {
			switch c.name {
			case "Add", "Sub", "Mul", "Div", "Hull":
				refused(t, good, c.made, c.name, "right,", show(wrong))
			}
		}
		w := good
		w.Out(wrong)
		for _, c := range calls(right, right) {
			refused(t, w, c.made, c.name, "after", show(wrong))
		}
	}
	for _, d := range notPlain() {
		refused(t, good, func(w *span.Work) api.Span { return w.Point(d) }, "Point", show(point(d)))
	}
}

func TestDivByWhatHoldsZero(t *testing.T) {
	good := span.Work{P: 53}
	tiny := of(1, -api.MaxExp)
	for _, b := range []api.Span{
		{}, ints(0, 1), ints(-1, 0), ints(-1, 1), {Hi: tiny}, {Lo: negative(tiny)}, {Lo: negative(tiny), Hi: tiny},
		{Lo: of(-1, api.MaxExp), Hi: tiny},
	} {
		for _, a := range []api.Span{{}, ints(1, 1), ints(-2, 3), b} {
			refused(t, good, func(w *span.Work) api.Span { return w.Div(a, b) }, "Div", show(a, b))
		}
	}
	// 0 over what has none is 0.
	expect(t, 53, func(w *span.Work) api.Span { return w.Div(api.Span{}, point(tiny)) }, api.Span{}, true, "0 over tiny")
}

func TestRootOfWhatIsBelowZero(t *testing.T) {
	good := span.Work{P: 53}
	for _, a := range []api.Span{
		ints(-1, -1), ints(-1, 0), ints(-1, 4), {Lo: of(-1, -api.MaxExp)}, {Lo: of(-1, -api.MaxExp), Hi: of(1, api.MaxExp)},
	} {
		refused(t, good, func(w *span.Work) api.Span { return w.Root(a) }, "Root", show(a))
	}
	expect(t, 53, func(w *span.Work) api.Span { return w.Root(api.Span{}) }, api.Span{}, true, "the root of 0")
}

func TestScaleOfZero(t *testing.T) {
	for _, k := range []int{0, 1, -1, api.MaxExp, -api.MaxExp} {
		expect(t, 53, func(w *span.Work) api.Span { return w.Scale(api.Span{}, k) }, api.Span{}, true, "0", k)
	}
	for _, k := range []int{api.MaxExp + 1, -api.MaxExp - 1, math.MaxInt, math.MinInt} {
		refused(t, span.Work{P: 53}, func(w *span.Work) api.Span { return w.Scale(api.Span{}, k) }, "0", k)
	}
}
