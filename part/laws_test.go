package part_test

import (
	"testing"

	"volvelle/api"
	"volvelle/arc"
)

// P11.2: with more bits what is enclosed meets what is with less; functions and
// their inverses go together, and functions with each other. These tests hold the
// calls against each other.

// checkMeet tells whether spans have numbers in common.
func checkMeet(t *testing.T, what string, a, b api.Span) {
	t.Helper()
	if !meet(a, b) {
		t.Errorf("%s: %s doesn't meet %s", what, showSpan(a), showSpan(b))
	}
}

func checkBothMeet(t *testing.T, what string, a, b [2]api.Span) {
	t.Helper()
	checkMeet(t, what+", first", a[0], b[0])
	checkMeet(t, what+", second", a[1], b[1])
}

// anyFour answers words of any size in reach at which a function isn't singular.
func (s *source) anyFour(tag int) api.Four {
	high := 1024
	if isBounded(tag) {
		high = 15
	}
	z := s.four(tag)
	for i := range z {
		if s.below(2) == 0 {
			z[i] = s.word(-1022, high)
		}
	}
	return z
}

func TestMoreBitsMeetLess(t *testing.T) {
	each(t, func(t *testing.T, tag int) {
		s := &source{uint64(300 + tag)}
		for n := range 30 {
			z := s.four(tag)
			if n%2 == 0 {
				z = s.anyFour(tag)
			}
			var all [][2]api.Span
			for _, p := range []int{16, 17, 20, 53, 64, 65, 128, 256, 512, 1000} {
				all = append(all, enclosed(t, p, tag, z))
			}
			if n%10 == 0 {
				all = append(all, enclosed(t, 4096, tag, z), enclosed(t, 6000, tag, z))
			}
			for i, a := range all {
				for _, b := range all[:i] {
					checkBothMeet(t, showCall(tag, z), a, b)
				}
			}
		}
	})
}

// applied works a function of which x and y are known by spans alone, by a calc's
// calls, as its expression in the table says.
func applied(c *arc.Calc, tag int, z [2]api.Span) [2]api.Span {
	x, y := z[0], z[1]
	switch tag {
	case api.Exp:
		return [2]api.Span{c.Mul(c.Exp(x), c.Cos(y)), c.Mul(c.Exp(x), c.Sin(y))}
	case api.Sin:
		return [2]api.Span{c.Mul(c.Sin(x), c.Cosh(y)), c.Mul(c.Cos(x), c.Sinh(y))}
	case api.Cos:
		return [2]api.Span{c.Mul(c.Cos(x), c.Cosh(y)), c.Neg(c.Mul(c.Sin(x), c.Sinh(y)))}
	case api.Sinh:
		return [2]api.Span{c.Mul(c.Sinh(x), c.Cos(y)), c.Mul(c.Cosh(x), c.Sin(y))}
	case api.Cosh:
		return [2]api.Span{c.Mul(c.Cosh(x), c.Cos(y)), c.Mul(c.Sinh(x), c.Sin(y))}
	case api.Sqrt:
		return product(c, z, z)
	}
	return [2]api.Span{}
}

// product works z times w.
func product(c *arc.Calc, z, w [2]api.Span) [2]api.Span {
	return [2]api.Span{
		c.Sub(c.Mul(z[0], w[0]), c.Mul(z[1], w[1])), c.Add(c.Mul(z[0], w[1]), c.Mul(z[1], w[0])),
	}
}

// placeOf answers z as spans.
func placeOf(z api.Four) [2]api.Span {
	return [2]api.Span{point(numberOf(z[0])), point(numberOf(z[1]))}
}

// A function of what its inverse tells has the point again. Tan and Tanh stand
// for the quotients of Sin and Cos, of Sinh and Cosh; Sqrt for its own square.
func TestInversesGoTogether(t *testing.T) {
	t.Parallel()
	pairs := []struct{ inverse, function, by int }{
		{api.Log, api.Exp, -1}, {api.Sqrt, api.Sqrt, -1}, {api.Asin, api.Sin, -1}, {api.Acos, api.Cos, -1}, {api.Atan, api.Sin, api.Cos},
		{api.Asinh, api.Sinh, -1}, {api.Acosh, api.Cosh, -1}, {api.Atanh, api.Sinh, api.Cosh},
	}
	for _, k := range pairs {
		s := &source{uint64(400 + k.inverse)}
		for range 150 {
			z := s.four(k.inverse)
			p := 400 + s.below(200)
			c := calc(p)
			w := enclosed(t, p, k.inverse, z)
			got, want := applied(c, k.function, w), placeOf(z)
			if k.by >= 0 {
				want = product(c, want, applied(c, k.by, w))
			}
			checkBothMeet(t, showCall(k.inverse, z), got, want)
			// Else the law would say little.
			for i, a := range got {
				if c.Bad || !isWithin(a, 100) && !meet(a, api.Span{}) {
					t.Fatalf("%s: %s, bad %v, %d", showCall(k.inverse, z), showSpan(a), c.Bad, i)
				}
			}
		}
	}
}

// What is multiplied is divided again, and a number is its distance times its
// direction.
func TestQuotientsAndAnglesGoTogether(t *testing.T) {
	t.Parallel()
	s := &source{6}
	for range 300 {
		z := s.anyFour(api.Div)
		for z[2]<<1 == 0 && z[3]<<1 == 0 {
			z = s.anyFour(api.Div)
		}
		p := 16 + s.below(300)
		c := calc(p)
		w := placeOf(api.Four{z[2], z[3]})
		checkBothMeet(t, showCall(api.Div, z), product(c, enclosed(t, p, api.Div, z), w), placeOf(z))
		checkBothMeet(t, showCall(api.Mul, z), enclosed(t, p, api.Mul, z), product(c, placeOf(z), w))
		long, angle := enclosed(t, p, api.Abs, z)[0], enclosed(t, p, api.Arg, z)[0]
		polar := [2]api.Span{c.Mul(long, c.Cos(angle)), c.Mul(long, c.Sin(angle))}
		checkBothMeet(t, showCall(api.Arg, z), polar, placeOf(z))
		if c.Bad {
			t.Fatalf("%s: bad", showCall(api.Arg, z))
		}
	}
}

// The other way round, of a point where a function's inverse has its values: its
// components at the words next to what the function told are near the point.
func TestFunctionsThenInverses(t *testing.T) {
	t.Parallel()
	for _, k := range []struct{ function, inverse int }{
		{api.Exp, api.Log}, {api.Sin, api.Asin}, {api.Tan, api.Atan}, {api.Sinh, api.Asinh}, {api.Tanh, api.Atanh},
	} {
		for _, x := range []float64{-0.75, -0.3, 0.1, 0.9} {
			for _, y := range []float64{-0.8, -0.2, 0.4, 0.7} {
				z := words(x, y)
				told := enclosed(t, 100, k.function, z)
				first, _ := exactly(told[0].Lo).Float64()
				second, _ := exactly(told[1].Lo).Float64()
				back := enclosed(t, 100, k.inverse, words(first, second))
				for i, want := range []float64{x, y} {
					if got, _ := exactly(back[i].Lo).Float64(); got-want > 1e-14 || want-got > 1e-14 {
						t.Errorf("%d of %s: %v, not %v", k.inverse, showCall(k.function, z), got, want)
					}
				}
			}
		}
	}
}

// negatives answers components, or those on the other side of 0.
func negatives(a [2]api.Span, first, second bool) [2]api.Span {
	c := calc(16)
	if first {
		a[0] = c.Neg(a[0])
	}
	if second {
		a[1] = c.Neg(a[1])
	}
	return a
}

// Of the conjugate of z the components are those of the conjugate; odd functions
// are odd, even ones even, on their cuts, too.
func TestConjugatesAndOpposites(t *testing.T) {
	odd := map[int]bool{api.Sin: true, api.Tan: true, api.Sinh: true, api.Tanh: true, api.Asin: true, api.Atan: true, api.Asinh: true, api.Atanh: true}
	even := map[int]bool{api.Cos: true, api.Cosh: true}
	each(t, func(t *testing.T, tag int) {
		s := &source{uint64(500 + tag)}
		for range 60 {
			z, p := s.anyFour(tag), 16+s.below(100)
			got := enclosed(t, p, tag, z)
			conjugate := enclosed(t, p, tag, api.Four{z[0], z[1] ^ sign, z[2], z[3] ^ sign})
			checkBothMeet(t, showCall(tag, z), got, negatives(conjugate, tag == api.Arg, true))
			opposite := enclosed(t, p, tag, api.Four{z[0] ^ sign, z[1] ^ sign, z[2], z[3]})
			if odd[tag] {
				checkBothMeet(t, showCall(tag, z), got, negatives(opposite, true, true))
			}
			if even[tag] {
				checkBothMeet(t, showCall(tag, z), got, opposite)
			}
		}
	})
}

// Hyperbolic functions are the others a quarter of a turn away: sinh z = -i sin
// i z, cosh z = cos i z, and so on.
func TestQuarterTurns(t *testing.T) {
	t.Parallel()
	s := &source{7}
	for range 100 {
		p := 16 + s.below(100)
		for _, k := range []struct{ turned, function int }{
			{api.Sinh, api.Sin}, {api.Tanh, api.Tan}, {api.Asinh, api.Asin}, {api.Atanh, api.Atan},
		} {
			z := s.anyFour(k.turned)
			at := enclosed(t, p, k.function, api.Four{z[1] ^ sign, z[0], z[2], z[3]})
			want := negatives([2]api.Span{at[1], at[0]}, false, true)
			checkBothMeet(t, showCall(k.turned, z), enclosed(t, p, k.turned, z), want)
		}
		z := s.anyFour(api.Cosh)
		at := enclosed(t, p, api.Cos, api.Four{z[1] ^ sign, z[0], z[2], z[3]})
		checkBothMeet(t, showCall(api.Cosh, z), enclosed(t, p, api.Cosh, z), at)
	}
}

// Sine and cosine are tangent's parts, their squares are 1 together; arcsine and
// arccosine are half of pi together; acosh is acos turned to the side of y.
func TestFunctionsOfOnePoint(t *testing.T) {
	t.Parallel()
	s := &source{8}
	for range 150 {
		p := 16 + s.below(200)
		c := calc(p)
		z := s.anyFour(api.Tan)
		sin, cos, tan := enclosed(t, p, api.Sin, z), enclosed(t, p, api.Cos, z), enclosed(t, p, api.Tan, z)
		checkBothMeet(t, showCall(api.Tan, z), product(c, tan, cos), sin)
		squares := [2]api.Span{}
		sines, cosines := product(c, sin, sin), product(c, cos, cos)
		for i := range squares {
			squares[i] = c.Add(sines[i], cosines[i])
		}
		checkBothMeet(t, showCall(api.Sin, z), squares, [2]api.Span{c.Num(1), c.Num(0)})
		sinh, cosh, tanh := enclosed(t, p, api.Sinh, z), enclosed(t, p, api.Cosh, z), enclosed(t, p, api.Tanh, z)
		checkBothMeet(t, showCall(api.Tanh, z), product(c, tanh, cosh), sinh)
		z = s.anyFour(api.Acos)
		asin, acos, acosh := enclosed(t, p, api.Asin, z), enclosed(t, p, api.Acos, z), enclosed(t, p, api.Acosh, z)
		both := [2]api.Span{c.Add(asin[0], acos[0]), c.Add(asin[1], acos[1])}
		checkBothMeet(t, showCall(api.Asin, z), both, [2]api.Span{c.Scale(c.Pi(), -1), c.Num(0)})
		below := z[1]&sign != 0
		checkBothMeet(t, showCall(api.Acosh, z), acosh, negatives([2]api.Span{acos[1], acos[0]}, !below, below))
		if c.Bad {
			t.Fatal("bad")
		}
	}
}
