package span_test

import (
	"math"
	"math/big"
	"testing"

	"volvelle/api"
	"volvelle/dyad"
	"volvelle/span"
)

// P3.1: each call answers as the chapter says.

// corners answers the least and the greatest of what comes of the ends.
func corners(a, b api.Span, of func(x, y number) number) (low, high number) {
	for i, x := range []api.Dyad{a.Lo, a.Hi} {
		for j, y := range []api.Dyad{b.Lo, b.Hi} {
			z := of(numberOf(x), numberOf(y))
			if i+j == 0 || compare(z, low) < 0 {
				low = z
			}
			if i+j == 0 || compare(z, high) > 0 {
				high = z
			}
		}
	}
	return low, high
}

func holdsZero(a api.Span) bool {
	return numberOf(a.Lo).above.Sign() <= 0 && numberOf(a.Hi).above.Sign() >= 0
}

// checkTwo holds the calls of two spans against the reference.
func checkTwo(t *testing.T, a, b api.Span, p int) {
	t.Helper()
	for _, x := range []struct {
		name string
		of   func(x, y number) number
		call call
	}{
		{"Add", sumOf, func(w *span.Work) api.Span { return w.Add(a, b) }},
		{"Sub", differenceOf, func(w *span.Work) api.Span { return w.Sub(a, b) }},
		{"Mul", productOf, func(w *span.Work) api.Span { return w.Mul(a, b) }},
		{"Div", quotientOf, func(w *span.Work) api.Span { return w.Div(a, b) }},
	} {
		var want api.Span
		ok := x.name != "Div" || !holdsZero(b)
		if ok {
			low, high := corners(a, b, x.of)
			want, ok = spanOf(floorOf(low, p, down), floorOf(high, p, up))
		}
		expect(t, p, x.call, want, ok, x.name, show(a, b))
	}
	low, high := numberOf(a.Lo), numberOf(a.Hi)
	if compare(numberOf(b.Lo), low) < 0 {
		low = numberOf(b.Lo)
	}
	if compare(numberOf(b.Hi), high) > 0 {
		high = numberOf(b.Hi)
	}
	want, ok := spanOf(low, high)
	expect(t, p, func(w *span.Work) api.Span { return w.Hull(a, b) }, want, ok, "Hull", show(a, b))
}

// checkOne holds the calls of one span, but Scale, against the reference.
func checkOne(t *testing.T, a api.Span, p int) {
	t.Helper()
	low, high := numberOf(a.Lo), numberOf(a.Hi)
	want, ok := spanOf(floorOf(low, p, down), floorOf(high, p, up))
	expect(t, p, func(w *span.Work) api.Span { return w.Out(a) }, want, ok, "Out", show(a))

	want, ok = api.Span{}, !a.Lo.Neg
	if ok {
		want, ok = spanOf(rootOf(low, p, down), rootOf(high, p, up))
	}
	expect(t, p, func(w *span.Work) api.Span { return w.Root(a) }, want, ok, "Root", show(a))

	want, ok = spanOf(whole(new(big.Int).Neg(high.above), high.e), whole(new(big.Int).Neg(low.above), low.e))
	expect(t, p, func(w *span.Work) api.Span { return w.Neg(a) }, want, ok, "Neg", show(a))

	for _, d := range []api.Dyad{a.Lo, a.Hi} {
		expect(t, p, func(w *span.Work) api.Span { return w.Point(d) }, point(d), true, "Point", show(a))
	}
	sign := 0
	if !holdsZero(a) {
		sign = low.above.Sign()
	}
	if got := span.Sign(a); got != sign {
		t.Fatalf("Sign of %v: %d", show(a), got)
	}
}

func checkScale(t *testing.T, a api.Span, k, p int) {
	t.Helper()
	low, high := numberOf(a.Lo), numberOf(a.Hi)
	var want api.Span
	ok := -262144 <= k && k <= 262144
	if ok {
		low.e += k
		high.e += k
		want, ok = spanOf(low, high)
	}
	expect(t, p, func(w *span.Work) api.Span { return w.Scale(a, k) }, want, ok, "Scale", show(a), k)
}

// Literal answers, so that not all hangs on the reference.
func TestExamples(t *testing.T) {
	one, three := ints(1, 1), ints(3, 3)
	for _, x := range []struct {
		name string
		p    int
		call call
		want api.Span
	}{
		{"1/3", 3, func(w *span.Work) api.Span { return w.Div(one, three) }, api.Span{Lo: of(5, -4), Hi: of(3, -3)}},
		{"-1/3", 3, func(w *span.Work) api.Span { return w.Div(ints(-1, -1), three) }, api.Span{Lo: of(-3, -3), Hi: of(-5, -4)}},
		{"1/-3", 3, func(w *span.Work) api.Span { return w.Div(one, ints(-3, -3)) }, api.Span{Lo: of(-3, -3), Hi: of(-5, -4)}},
		{"6/3", 1, func(w *span.Work) api.Span { return w.Div(ints(6, 6), three) }, ints(2, 2)},
		{"[1,4]/[2,4]", 8, func(w *span.Work) api.Span { return w.Div(ints(1, 4), ints(2, 4)) }, api.Span{Lo: of(1, -2), Hi: of(2, 0)}},
		{"[-4,8]/[-4,-2]", 8, func(w *span.Work) api.Span { return w.Div(ints(-4, 8), ints(-4, -2)) }, ints(-4, 2)},
		{"[0,3]/[1,2]", 8, func(w *span.Work) api.Span { return w.Div(ints(0, 3), ints(1, 2)) }, ints(0, 3)},
		{"9+9", 3, func(w *span.Work) api.Span { return w.Add(ints(9, 9), ints(8, 9)) }, ints(16, 20)},
		{"-9-9", 3, func(w *span.Work) api.Span { return w.Sub(ints(-9, -9), ints(8, 9)) }, ints(-20, -16)},
		{"[1,2]-[1,2]", 9, func(w *span.Work) api.Span { return w.Sub(ints(1, 2), ints(1, 2)) }, ints(-1, 1)},
		{"[-2,3]*[-5,7]", 9, func(w *span.Work) api.Span { return w.Mul(ints(-2, 3), ints(-5, 7)) }, ints(-15, 21)},
		{"[-3,2]*[-5,7]", 9, func(w *span.Work) api.Span { return w.Mul(ints(-3, 2), ints(-5, 7)) }, ints(-21, 15)},
		{"[-2,1]*[-2,1]", 9, func(w *span.Work) api.Span { return w.Mul(ints(-2, 1), ints(-2, 1)) }, ints(-2, 4)},
		{"5*5", 3, func(w *span.Work) api.Span { return w.Mul(ints(5, 5), ints(5, 5)) }, ints(24, 28)},
		{"root of [2,9]", 2, func(w *span.Work) api.Span { return w.Root(ints(2, 9)) }, ints(1, 3)},
		{"root of [0,2]", 2, func(w *span.Work) api.Span { return w.Root(ints(0, 2)) }, api.Span{Hi: of(3, -1)}},
		{"-[1,9]", 1, func(w *span.Work) api.Span { return w.Neg(ints(1, 9)) }, ints(-9, -1)},
		{"[5,9]*4", 1, func(w *span.Work) api.Span { return w.Scale(ints(5, 9), 2) }, ints(20, 36)},
		{"[5,9]/4", 1, func(w *span.Work) api.Span { return w.Scale(ints(5, 9), -2) }, api.Span{Lo: of(5, -2), Hi: of(9, -2)}},
		{"hull apart", 1, func(w *span.Work) api.Span { return w.Hull(ints(5, 9), ints(-7, 3)) }, ints(-7, 9)},
		{"hull within", 1, func(w *span.Work) api.Span { return w.Hull(ints(5, 9), ints(6, 7)) }, ints(5, 9)},
		{"out", 3, func(w *span.Work) api.Span { return w.Out(ints(9, 9)) }, ints(8, 10)},
		{"out below 0", 3, func(w *span.Work) api.Span { return w.Out(ints(-15, -13)) }, ints(-16, -12)},
	} {
		expect(t, x.p, x.call, x.want, true, x.name)
	}
}

func TestSmallSpans(t *testing.T) {
	all := small(5)
	for _, p := range []int{1, 2, 3, 5} {
		for _, a := range all {
			checkOne(t, a, p)
			for _, b := range all {
				checkTwo(t, a, b, p)
			}
		}
	}
}

func TestRandomSpans(t *testing.T) {
	s := &source{1}
	for range 20000 {
		n, e := 1+s.below(200), s.below(80)
		a, b, p := s.span(n, e), s.span(1+s.below(200), s.below(80)), 1+s.below(150)
		checkOne(t, a, p)
		checkTwo(t, a, b, p)
		checkScale(t, a, s.below(400)-200, p)
	}
}

func TestSpansAtTheBounds(t *testing.T) {
	all := edges()
	bits := []int{1, 2, 3, 53, 64, 65, api.MaxPrec - 1, api.MaxPrec}
	for i, a := range all {
		for _, p := range bits {
			checkOne(t, a, p)
		}
		// A third of all pairs: the reference is slow with numbers this long.
		for j := i % 3; j < len(all); j += 3 {
			checkTwo(t, a, all[j], bits[(i+j)%len(bits)])
		}
	}
}

func TestNum(t *testing.T) {
	all := []int64{0, 1, -1, 2, -2, 3, -12, 1 << 62, -1 << 62, math.MaxInt64, math.MinInt64, math.MinInt64 + 1}
	s := &source{2}
	for range 2000 {
		all = append(all, int64(s.next()>>s.below(64)))
	}
	for _, n := range all {
		d, _ := plainOf(whole(big.NewInt(n), 0))
		expect(t, 1, func(w *span.Work) api.Span { return w.Num(n) }, point(d), true, "Num", n)
		expect(t, api.MaxPrec, func(w *span.Work) api.Span { return w.Num(n) }, point(d), true, "Num", n)
	}
}

func TestScaleAtTheBounds(t *testing.T) {
	most := api.MaxExp
	for _, a := range edges() {
		for _, k := range []int{0, 1, -1, 64, most, -most, most - 1, 1 - most, most + 1, -most - 1, 2 * most, -2 * most, math.MaxInt, math.MinInt} {
			checkScale(t, a, k, 1)
		}
	}
	// From one bound to the other in two steps, and no farther.
	w := &span.Work{P: 1}
	a := w.Scale(w.Scale(ints(1, 1), most), -most)
	a = w.Scale(w.Scale(a, -most), most)
	if w.Bad || !same(a, ints(1, 1)) {
		t.Error("there and back", a, w)
	}
	if a = w.Scale(point(of(1, most)), 1); !w.Bad || !same(a, api.Span{}) {
		t.Error("past the bound", a, w)
	}
}

// Neg, Scale, Hull, Point and Num keep every bit, with however few the work
// has; Out cuts just as Cut does.
func TestWhatIsCut(t *testing.T) {
	long := api.Span{Lo: negative(ones(api.MaxBits, 0)), Hi: ends(api.MaxBits, -7)}
	w := &span.Work{P: 1}
	if got := w.Neg(w.Neg(long)); !same(got, long) {
		t.Error("Neg", show(got))
	}
	if got := w.Scale(w.Scale(long, 99), -99); !same(got, long) {
		t.Error("Scale", show(got))
	}
	if got := w.Hull(point(long.Lo), point(long.Hi)); !same(got, long) {
		t.Error("Hull", show(got))
	}
	if got := w.Point(long.Hi); !same(got, point(long.Hi)) {
		t.Error("Point", show(got))
	}
	for _, p := range []int{1, 2, 64, 1000, api.MaxPrec} {
		lo, _ := dyad.Cut(long.Lo, p, down)
		hi, _ := dyad.Cut(long.Hi, p, up)
		w := &span.Work{P: p}
		if got := w.Out(long); w.Bad || !same(got, api.Span{Lo: lo, Hi: hi}) {
			t.Error("Out", p, show(got))
		}
	}
	if w.Bad {
		t.Error("the work is bad")
	}
}

func TestSign(t *testing.T) {
	tiny, huge := of(1, -api.MaxExp), ones(api.MaxBits, api.MaxExp)
	for _, x := range []struct {
		a    api.Span
		want int
	}{
		{api.Span{}, 0}, {ints(1, 1), 1}, {ints(-1, -1), -1}, {ints(0, 1), 0}, {ints(-1, 0), 0}, {ints(-1, 1), 0},
		{api.Span{Lo: tiny, Hi: huge}, 1},
		{api.Span{Lo: negative(huge), Hi: negative(tiny)}, -1},
		{api.Span{Lo: negative(huge), Hi: tiny}, 0},
		{api.Span{Hi: tiny}, 0},
		{api.Span{Lo: negative(tiny)}, 0},
	} {
		if got := span.Sign(x.a); got != x.want {
			t.Errorf("Sign of %v: %d", show(x.a), got)
		}
	}
	for _, a := range notRight() {
		if got := span.Sign(a); got != 0 {
			t.Errorf("Sign of %v, which isn't right: %d", show(a), got)
		}
	}
}
