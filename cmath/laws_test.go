package cmath_test

import (
	"math"
	"slices"
	"testing"

	"volvelle/api"
	"volvelle/bits"
	"volvelle/cmath"
)

// P14.2, P14.3, P0.2 and P0.3: how answers lie to each other.

// What is decided at two budgets is the same.
func TestBudgetsAgree(t *testing.T) {
	each(t, tags(), func(t *testing.T, tag int) {
		s := &source{uint64(300 + tag)}
		for n := range 120 {
			z, mode := s.anyFour(), s.of(modes[:]...)
			if n%2 == 0 {
				z = s.four(tag)
			}
			var first [2]api.Part
			for i := range first {
				first[i].Status = api.BadOp
			}
			for _, budget := range []int{128, 129, s.of(200, 256, 300), s.of(512, 777, 1000), s.of(2048, 4095, 4096)} {
				for i, p := range cmath.Call(tag, z, mode, budget) {
					if p.Status == api.Decided && first[i].Status == api.Decided && p != first[i] {
						t.Errorf("%s, %d: %s, not %s", showCall(tag, z, mode, budget), i, showPart(p), showPart(first[i]))
					}
					if p.Status == api.Decided {
						first[i] = p
					}
				}
			}
		}
	})
}

// mostly answers words of any kind, or, more often, ordinary ones, or such as have
// components that end.
func (s *source) mostly(tag int) api.Four {
	switch s.below(4) {
	case 0:
		return s.anyFour()
	case 1:
		little := func() uint64 { return word(float64(s.below(9)) - 4) }
		return api.Four{little(), little(), little(), little()}
	}
	return s.four(tag)
}

// number answers that of a word, of an infinity one beyond all.
func number(b uint64) float64 {
	return math.Float64frombits(b)
}

// checkModes holds what is decided in all modes against each other.
func checkModes(t *testing.T, tag int, z api.Four, i int, l [5]api.Part) {
	t.Helper()
	low, high := l[api.Down], l[api.Up]
	for mode, p := range l {
		if p.Word == api.NaN && p == low {
			continue
		}
		isOne := p.Word == low.Word || p.Word == high.Word
		if number(p.Word) < number(low.Word) || number(p.Word) > number(high.Word) || !isOne {
			t.Errorf("%s, %d: %s, but %s and %s", showCall(tag, z, mode, 300), i, showPart(p), showPart(low), showPart(high))
		}
		if (p.Flags^low.Flags)&^api.Overflow != 0 {
			t.Errorf("%s, %d: %s, but %s", showCall(tag, z, mode, 300), i, showPart(p), showPart(low))
		}
	}
	next, ok := bits.Next(low.Word, true)
	isSame := low.Word == high.Word || isZero(low.Word) && isZero(high.Word)
	if isSame == (low.Flags&api.Inexact != 0) || !isSame && (!ok || next != high.Word) {
		t.Errorf("%s, %d: %s and %s", showCall(tag, z, api.Down, 300), i, showPart(low), showPart(high))
	}
}

// Down's word isn't above any other mode's, Up's not below; the others' are one of
// these. Between both there is no word, and where the component is a word, all
// modes have that.
func TestModesInOrder(t *testing.T) {
	each(t, tags(), func(t *testing.T, tag int) {
		s := &source{uint64(400 + tag)}
		count := 0
		for range 200 {
			z := s.mostly(tag)
			if special, isTold := expected(tag, z, 0, 128); isTold && (special[0].Status != 0 || special[0].Flags|special[1].Flags != 0) {
				continue
			}
			var l [2][5]api.Part
			for _, mode := range modes {
				for i, p := range cmath.Call(tag, z, mode, 300) {
					l[i][mode] = p
				}
			}
			for i := range l {
				if !slices.ContainsFunc(l[i][:], func(p api.Part) bool { return p.Status != api.Decided }) {
					checkModes(t, tag, z, i, l[i])
					count++
				}
			}
		}
		if count < 200 {
			t.Errorf("function %d: %d are decided in all modes", tag, count)
		}
	})
}

// mirrored answers a part on the other side of 0, which has that word there; that
// of a number that is 0 by its mode.
func mirrored(tag int, p api.Part, mode int) api.Part {
	switch {
	case p.Word == api.NaN:
	case p.Status == api.Undecided:
		p.Lo, p.Hi = p.Hi^sign, p.Lo^sign
	case p.Status == api.Decided && takesTwo(tag) && isZero(p.Word) && p.Flags == 0:
		p.Word = cancelled(mode)
	case p.Status == api.Decided:
		p.Word ^= sign
	}
	return p
}

// Of the conjugates answers are conjugates, with Up and Down changed for the
// second part. An angle of Arg is one beside the axis, too: it is turned.
func TestConjugates(t *testing.T) {
	each(t, tags(), func(t *testing.T, tag int) {
		s := &source{uint64(500 + tag)}
		for range 200 {
			z, mode := s.mostly(tag), s.of(modes[:]...)
			budget := s.of(128, 256, 1000)
			same, other := cmath.Call(tag, z, mode, budget), cmath.Call(tag, z, turned[mode], budget)
			want := [2]api.Part{same[0], mirrored(tag, other[1], mode)}
			switch tag {
			case api.Abs:
				want[1] = same[1]
			case api.Arg:
				want = [2]api.Part{mirrored(tag, other[0], mode), same[1]}
			}
			answers(t, tag, api.Four{z[0], z[1] ^ sign, z[2], z[3] ^ sign}, mode, budget, want)
		}
	})
}

func isOdd(tag int) bool {
	switch tag {
	case api.Conj, api.Mul, api.Div, api.Sin, api.Tan, api.Sinh, api.Tanh, api.Asin, api.Atan, api.Asinh, api.Atanh:
		return true
	}
	return false
}

func isEven(tag int) bool {
	return tag == api.Abs || tag == api.Cos || tag == api.Cosh
}

// Turned about the middle odd functions are turned, too, with modes that are
// turned; even ones aren't.
func TestOddAndEven(t *testing.T) {
	each(t, tags(), func(t *testing.T, tag int) {
		if !isOdd(tag) && !isEven(tag) {
			return
		}
		s := &source{uint64(600 + tag)}
		for range 200 {
			z, mode := s.mostly(tag), s.of(modes[:]...)
			budget := s.of(128, 256, 1000)
			want := cmath.Call(tag, z, mode, budget)
			if isOdd(tag) {
				other := cmath.Call(tag, z, turned[mode], budget)
				want = [2]api.Part{mirrored(tag, other[0], mode), mirrored(tag, other[1], mode)}
			}
			answers(t, tag, api.Four{z[0] ^ sign, z[1] ^ sign, z[2], z[3]}, mode, budget, want)
		}
	})
}

// Sinh, Tanh, Asinh and Atanh of z are the sine's like of i z, over i; Cosh is the
// cosine of i z.
func TestQuarterTurned(t *testing.T) {
	each(t, []int{api.Sinh, api.Tanh, api.Asinh, api.Atanh, api.Cosh}, func(t *testing.T, tag int) {
		s := &source{uint64(700 + tag)}
		round := map[int]int{api.Sinh: api.Sin, api.Tanh: api.Tan, api.Asinh: api.Asin, api.Atanh: api.Atan, api.Cosh: api.Cos}[tag]
		for range 200 {
			z, mode := s.mostly(tag), s.of(modes[:]...)
			budget := s.of(128, 256, 1000)
			on := api.Four{z[1] ^ sign, z[0]}
			want := cmath.Call(round, on, mode, budget)
			if tag != api.Cosh {
				want = [2]api.Part{want[1], mirrored(round, cmath.Call(round, on, turned[mode], budget)[0], mode)}
			}
			answers(t, tag, z, mode, budget, want)
		}
	})
}

// along: a function whose first component rises along the axis of x from one
// number to another.
type along struct {
	tag       int
	low, high float64
	falls     bool
}

// rising answers those that rise or fall.
func rising() []along {
	all := math.MaxFloat64
	return []along{
		{api.Abs, 0, all, false}, {api.Sqrt, 0, all, false}, {api.Exp, -800, 720, false}, {api.Log, 0, all, false}, {api.Sin, -1.5, 1.5, false},
		{api.Cos, 0, 3.14, true}, {api.Tan, -1.5, 1.5, false}, {api.Sinh, -720, 720, false}, {api.Cosh, 0, 720, false}, {api.Tanh, -32768, 32768, false},
		{api.Asin, -1, 1, false}, {api.Acos, -1, 1, true}, {api.Atan, -all, all, false}, {api.Asinh, -all, all, false}, {api.Acosh, 1, all, false},
		{api.Atanh, -1 + 0x1p-53, 1 - 0x1p-53, false},
	}
}

// places answers numbers of a line in their order: its ends, next to these, next
// to 0 and to 1, of any size, and, behind each, the next ones.
func (k along) places(s *source) []float64 {
	var l []float64
	add := func(x float64) {
		for range 3 {
			if k.low <= x && x <= k.high {
				l = append(l, x)
			}
			x = math.Nextafter(x, math.Inf(1))
		}
	}
	for _, x := range []float64{k.low, k.high - k.high*0x1p-52, -0x1p-1074, 0x1p-1074, -1, 1, 0x1p-1022, -0x1p-1022} {
		add(x)
	}
	for range 25 {
		add(number(s.word(-60, 10)))
		add(number(s.word(-1000, 1000)))
		add(k.low/2 + k.high/2 + (k.high/2-k.low/2)*math.Remainder(number(s.word(0, 1)), 1)*2)
	}
	slices.Sort(l)
	return l
}

// Where functions rise, words don't fall, in no mode.
func TestWordsRise(t *testing.T) {
	t.Parallel()
	for _, k := range rising() {
		for _, mode := range modes {
			s := &source{uint64(800 + k.tag)}
			last, count := math.Inf(-1), 0
			for _, x := range k.places(s) {
				p := cmath.Call(k.tag, words(x, 0), mode, 512)[0]
				if p.Status != api.Decided || k.tag == api.Log && x == 0 {
					continue
				}
				count++
				next := number(p.Word)
				if k.falls {
					next = -next
				}
				if next < last || math.IsNaN(next) {
					t.Errorf("%s: %s, behind %v", showCall(k.tag, words(x, 0), mode, 512), showPart(p), last)
				}
				last = next
			}
			if count < 100 {
				t.Errorf("function %d in mode %d: %d words", k.tag, mode, count)
			}
		}
	}
}

// Angles rise around the middle, from the one side of the cut to the other.
func TestAnglesRise(t *testing.T) {
	for _, tag := range []int{api.Arg, api.Log} {
		i := map[int]int{api.Arg: 0, api.Log: 1}[tag]
		for _, mode := range modes {
			last := math.Inf(-1)
			for n := -100; n <= 100; n++ {
				angle := float64(n) * math.Pi / 100
				y := math.Copysign(math.Abs(math.Sin(angle)), angle)
				if n == -100 || n == 100 {
					y = math.Copysign(0, angle)
				}
				p := cmath.Call(tag, words(math.Cos(angle), y), mode, 128)[i]
				if p.Status != api.Decided || number(p.Word) <= last {
					t.Errorf("%d of 100 of pi, in mode %d: %s", n, mode, showPart(p))
				}
				last = number(p.Word)
			}
		}
	}
}

// A product with 1, and a quotient by it, is the number itself, in all modes.
func TestTimesOne(t *testing.T) {
	s := &source{9}
	for range 300 {
		x, y, mode := s.ordinary(), s.ordinary(), s.of(modes[:]...)
		want := [2]api.Part{is(x, 0), is(y, 0)}
		for i, b := range []uint64{x, y} {
			if isZero(b) {
				want[i].Word = cancelled(mode)
			}
		}
		answers(t, api.Mul, api.Four{x, y, one, s.next() & sign}, mode, 128, want)
		answers(t, api.Mul, api.Four{one, s.next() & sign, x, y}, mode, 128, want)
		answers(t, api.Div, api.Four{x, y, one, s.next() & sign}, mode, 128, want)
	}
}
