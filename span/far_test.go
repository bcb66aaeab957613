package span_test

import (
	"testing"

	"volvelle/api"
	"volvelle/dyad"
	"volvelle/span"
)

// P3.1: what is answered must be plain, what is worked on the way to it needn't.

func TestSumsOfNumbersFarApart(t *testing.T) {
	for _, e := range []int{20000, 131072, 131073, 200000, api.MaxExp - 3} {
		great, tiny := of(1, e), of(1, -e)
		if _, ok := dyad.Sum(great, tiny); ok {
			t.Fatal("the sum itself is plain")
		}
		g, l := point(great), point(tiny)
		add := func(w *span.Work) api.Span { return w.Add(g, l) }
		expect(t, 3, add, api.Span{Lo: great, Hi: of(5, e-2)}, true, "great and tiny", e)
		add = func(w *span.Work) api.Span { return w.Add(l, g) }
		expect(t, 3, add, api.Span{Lo: great, Hi: of(5, e-2)}, true, "tiny and great", e)
		sub := func(w *span.Work) api.Span { return w.Sub(g, l) }
		expect(t, 3, sub, api.Span{Lo: of(7, e-3), Hi: great}, true, "great less tiny", e)
		sub = func(w *span.Work) api.Span { return w.Sub(l, g) }
		expect(t, 3, sub, api.Span{Lo: negative(great), Hi: of(-7, e-3)}, true, "tiny less great", e)
	}
}

func TestSumsOfLongNumbers(t *testing.T) {
	long := ones(api.MaxBits, 0)
	a, b := point(long), point(of(1, -1))
	add := func(w *span.Work) api.Span { return w.Add(a, b) }
	expect(t, 1, add, api.Span{Lo: of(1, api.MaxBits-1), Hi: of(1, api.MaxBits)}, true, "long and a half")
	sub := func(w *span.Work) api.Span { return w.Sub(b, a) }
	expect(t, 1, sub, api.Span{Lo: of(-1, api.MaxBits), Hi: of(-1, api.MaxBits-1)}, true, "a half less long")
}

func TestProductsOfLongNumbers(t *testing.T) {
	long := ones(api.MaxBits, 0)
	if _, ok := dyad.Mul(long, long); ok {
		t.Fatal("the product itself is plain")
	}
	n := 2 * api.MaxBits
	a := point(long)
	mul := func(w *span.Work) api.Span { return w.Mul(a, a) }
	expect(t, 3, mul, api.Span{Lo: of(7, n-3), Hi: of(1, n)}, true, "long by itself")
	expect(t, api.MaxPrec, mul, api.Span{Lo: ones(api.MaxPrec, n-api.MaxPrec), Hi: of(1, n)}, true, "long by itself")
}

// An E below the bound that the cut brings up to it.
func TestProductsBelowTheBound(t *testing.T) {
	a, b := ends(api.MaxBits, -api.MaxExp), of(3, -9)
	mul := func(w *span.Work) api.Span { return w.Mul(point(a), point(b)) }
	e := api.MaxBits - 1 - api.MaxExp - 9
	expect(t, 2, mul, api.Span{Lo: of(3, e), Hi: of(1, e+2)}, true, "a product with an E below")
}

// Both spans hold 0 inside: the products that don't count needn't be plain.
func TestProductsThatDoNotCount(t *testing.T) {
	tiny, huge := of(1, -api.MaxExp), of(1, api.MaxExp)
	a := api.Span{Lo: of(-1, 0), Hi: tiny}
	mul := func(w *span.Work) api.Span { return w.Mul(a, a) }
	expect(t, 5, mul, api.Span{Lo: negative(tiny), Hi: of(1, 0)}, true, "tiny squared isn't plain")
	b := api.Span{Lo: negative(tiny), Hi: of(1, 0)}
	c := api.Span{Lo: negative(tiny), Hi: huge}
	mul = func(w *span.Work) api.Span { return w.Mul(b, c) }
	expect(t, 5, mul, api.Span{Lo: of(-1, 0), Hi: huge}, true, "nor is it here")
}

// One of two ends that isn't plain is enough.
func TestAnswersThatAreNotPlain(t *testing.T) {
	half, huge, tiny := of(1, api.MaxExp/2+1), of(1, api.MaxExp), of(1, -api.MaxExp)
	good := span.Work{P: 3}
	for name, made := range map[string]call{
		"Add":            func(w *span.Work) api.Span { return w.Add(point(huge), point(huge)) },
		"Add at Hi":      func(w *span.Work) api.Span { return w.Add(between(of(1, 0), huge), between(of(1, 0), huge)) },
		"Add at Lo":      func(w *span.Work) api.Span { return w.Add(between(negative(huge), of(1, 0)), point(negative(huge))) },
		"Sub":            func(w *span.Work) api.Span { return w.Sub(point(huge), point(negative(huge))) },
		"Mul":            func(w *span.Work) api.Span { return w.Mul(point(half), point(half)) },
		"Mul at Hi":      func(w *span.Work) api.Span { return w.Mul(between(of(1, 0), half), between(of(1, 0), half)) },
		"Mul, tiny":      func(w *span.Work) api.Span { return w.Mul(point(tiny), point(of(1, -1))) },
		"Mul, tiny, Lo":  func(w *span.Work) api.Span { return w.Mul(between(tiny, of(1, 0)), between(of(1, -1), of(1, 0))) },
		"Div":            func(w *span.Work) api.Span { return w.Div(point(huge), point(of(1, -1))) },
		"Div, tiny":      func(w *span.Work) api.Span { return w.Div(point(tiny), point(of(1, 1))) },
		"Div at Hi":      func(w *span.Work) api.Span { return w.Div(between(of(1, 0), huge), between(of(1, -1), of(1, 0))) },
		"Div, long":      func(w *span.Work) api.Span { return w.Div(point(tiny), point(of(3, 0))) },
		"Scale":          func(w *span.Work) api.Span { return w.Scale(point(huge), 1) },
		"Scale, tiny":    func(w *span.Work) api.Span { return w.Scale(point(tiny), -1) },
		"Scale at Hi":    func(w *span.Work) api.Span { return w.Scale(between(of(1, 0), huge), 1) },
		"Scale at Lo":    func(w *span.Work) api.Span { return w.Scale(between(negative(huge), of(1, 0)), 1) },
		"Out":            func(w *span.Work) api.Span { return w.Out(point(of(15, api.MaxExp))) },
		"Out at Hi":      func(w *span.Work) api.Span { return w.Out(between(of(1, 0), of(15, api.MaxExp))) },
		"Out at Lo":      func(w *span.Work) api.Span { return w.Out(between(of(-15, api.MaxExp), of(1, 0))) },
		"Add that falls": func(w *span.Work) api.Span { return w.Sub(point(of(3, api.MaxExp)), point(of(1, api.MaxExp))) },
	} {
		refused(t, good, made, name)
	}
}
