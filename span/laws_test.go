package span_test

import (
	"math/big"
	"testing"

	"volvelle/api"
	"volvelle/nat"
	"volvelle/span"
)

// P3.2: what comes of numbers in spans lies in what is answered.

func holds(a api.Span, x number) bool {
	return compare(numberOf(a.Lo), x) <= 0 && compare(x, numberOf(a.Hi)) <= 0
}

func isWithin(a, b api.Span) bool {
	return holds(b, numberOf(a.Lo)) && holds(b, numberOf(a.Hi))
}

func checkHolds(t *testing.T, a api.Span, x number, what ...any) {
	t.Helper()
	if !holds(a, x) {
		t.Fatalf("%v: %v isn't in %v", what, x, show(a))
	}
}

func TestNumbersLieInWhatIsAnswered(t *testing.T) {
	s := &source{3}
	for range 20000 {
		a, b := s.span(1+s.below(100), s.below(60)), s.span(1+s.below(100), s.below(60))
		x, y := numberOf(s.inside(a)), numberOf(s.inside(b))
		w := &span.Work{P: 1 + s.below(120)}
		checkHolds(t, a, x, "the number itself")
		checkHolds(t, w.Add(a, b), sumOf(x, y), "Add", w.P, show(a, b))
		checkHolds(t, w.Sub(a, b), differenceOf(x, y), "Sub", w.P, show(a, b))
		checkHolds(t, w.Mul(a, b), productOf(x, y), "Mul", w.P, show(a, b))
		checkHolds(t, w.Hull(a, b), x, "Hull", w.P, show(a, b))
		checkHolds(t, w.Hull(a, b), y, "Hull", w.P, show(a, b))
		checkHolds(t, w.Out(a), x, "Out", w.P, show(a))
		checkHolds(t, w.Neg(a), whole(new(big.Int).Neg(x.above), x.e), "Neg", show(a))
		checkHolds(t, w.Scale(a, 7), whole(x.above, x.e+7), "Scale", show(a))
		if span.Sign(b) != 0 {
			checkHolds(t, w.Div(a, b), quotientOf(x, y), "Div", w.P, show(a, b))
		}
		if !a.Lo.Neg {
			root := w.Root(a)
			lo, hi := numberOf(root.Lo), numberOf(root.Hi)
			if compare(productOf(lo, lo), x) > 0 || compare(productOf(hi, hi), x) < 0 {
				t.Fatalf("the root of %v isn't in %v", x, show(root))
			}
		}
		if w.Bad {
			t.Fatal("the work is bad", show(a, b))
		}
	}
}

// All integers of small spans, and all pairs of them.
func TestAllIntegersLieInWhatIsAnswered(t *testing.T) {
	w := &span.Work{P: 2}
	integer := func(n int64) number { return whole(big.NewInt(n), 0) }
	for _, a := range small(4) {
		for _, b := range small(4) {
			sum, gap, product, quotient := w.Add(a, b), w.Sub(a, b), w.Mul(a, b), api.Span{}
			divides := span.Sign(b) != 0
			if divides {
				quotient = w.Div(a, b)
			}
			for x := int64(-4); x <= 4; x++ {
				for y := int64(-4); y <= 4; y++ {
					if !holds(a, integer(x)) || !holds(b, integer(y)) {
						continue
					}
					checkHolds(t, sum, integer(x+y), "Add", show(a, b))
					checkHolds(t, gap, integer(x-y), "Sub", show(a, b))
					checkHolds(t, product, integer(x*y), "Mul", show(a, b))
					if divides {
						checkHolds(t, quotient, quotientOf(integer(x), integer(y)), "Div", show(a, b))
					}
				}
			}
		}
	}
	if w.Bad {
		t.Error("the work is bad")
	}
}

// What is cut has as many bits as the work at most; with more bits it lies in
// what was answered with fewer; and of a span within another it lies in what
// comes of that.
func TestWidthsGoTogether(t *testing.T) {
	s := &source{4}
	for range 5000 {
		a, b, p := s.span(150, 60), s.span(150, 60), 1+s.below(100)
		if span.Sign(b) == 0 {
			b = point(of(3, s.below(9)))
		}
		if a.Lo.Neg {
			a.Hi.Neg = false
			a = between(api.Dyad{}, a.Hi)
		}
		inner := between(s.inside(a), s.inside(a))
		few, many := &span.Work{P: p}, &span.Work{P: p + 1 + s.below(90)}
		outer, finer, part := calls(a, b), calls(a, b), calls(inner, b)
		for i, c := range outer {
			wide := c.made(few)
			switch c.name {
			case "Point", "Num":
				continue
			case "Add", "Sub", "Mul", "Div", "Root", "Out":
				if nat.Bits(wide.Lo.M) > p || nat.Bits(wide.Hi.M) > p {
					t.Fatalf("%s with %d bits: %v", c.name, p, show(wide))
				}
			}
			if narrow := finer[i].made(many); !isWithin(narrow, wide) {
				t.Fatalf("%s: with %d bits %v, with %d bits %v", c.name, p, show(wide), many.P, show(narrow))
			}
			if narrow := part[i].made(few); !isWithin(narrow, wide) {
				t.Fatalf("%s: of %v %v, of a part %v", c.name, show(a), show(wide), show(narrow))
			}
		}
		if few.Bad || many.Bad {
			t.Fatal("a work is bad", show(a, b))
		}
	}
}

// Sums and products don't hang on the order of what is handed in; a span less
// itself holds 0, over itself it holds 1.
func TestCallsGoTogether(t *testing.T) {
	s := &source{5}
	for range 5000 {
		a, b := s.span(150, 60), s.span(150, 60)
		w := &span.Work{P: 1 + s.below(100)}
		if !same(w.Add(a, b), w.Add(b, a)) || !same(w.Mul(a, b), w.Mul(b, a)) || !same(w.Hull(a, b), w.Hull(b, a)) {
			t.Fatalf("%v and %v in the other order", show(a), show(b))
		}
		if !same(w.Sub(a, b), w.Neg(w.Sub(b, a))) || !same(w.Mul(w.Neg(a), b), w.Neg(w.Mul(a, b))) {
			t.Fatalf("%v and %v with other signs", show(a), show(b))
		}
		checkHolds(t, w.Sub(a, a), whole(new(big.Int), 0), "a less a", show(a))
		if span.Sign(a) != 0 {
			checkHolds(t, w.Div(a, a), whole(big.NewInt(1), 0), "a over a", show(a))
			checkHolds(t, w.Mul(w.Div(b, a), a), numberOf(b.Hi), "b over a times a", show(a, b))
		}
		if w.Bad {
			t.Fatal("the work is bad", show(a, b))
		}
	}
}
