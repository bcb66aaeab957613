package script_test

import (
	"fmt"
	"math"
	"math/big"
	"slices"
	"strings"
	"testing"

	"volvelle/api"
	"volvelle/script"
)

// P15.1, P15.2, and the promises of the whole, as transcripts show them.

// P15.1: what Run answers of a call's line is what the layer below answers of what
// it stands for.
func TestCallsAreTheLayersOwn(t *testing.T) {
	t.Parallel()
	s := &source{3}
	var lines, want []string
	for n := range 4000 {
		a := asked{s.below(23), s.four(), s.of(0, 1, 2, 3, 4, 0, 1, 2, 3, 4, 5), s.of(127, 128, 128, 129, 256, 300, 512, 700, 4096, 4097)}
		if n%4 == 0 {
			a = asked{s.below(21), s.numbers(), s.below(5), 128 + s.below(3969)}
		}
		answers(t, a.line(), a.answer())
		lines, want = append(lines, a.line()), append(want, a.answer())
	}
	for at := 0; at < len(lines); at += 500 {
		runs(t, strings.Join(lines[at:at+500], "\n"), strings.Join(want[at:at+500], "\n")+"\n")
	}
	for _, answer := range []string{"bad", "reach", "?", "/0", "/1", "/8"} {
		if !slices.ContainsFunc(want, func(l string) bool { return strings.Contains(l, answer) }) {
			t.Errorf("no answer has %q", answer)
		}
	}
}

// P15.1: any numbers are read, whether they name something or not.
func TestNumbersAreTheLayersOwn(t *testing.T) {
	s := &source{4}
	for range 3000 {
		a := asked{s.of(s.below(21), s.below(100001)), s.four(), s.of(s.below(5), s.below(5), s.below(100001)), s.of(128+s.below(400), s.below(100001))}
		answers(t, a.line(), a.answer())
	}
}

// someLines answers lines of all sorts.
func someLines() []string {
	s := &source{5}
	l := []string{"", "  ", "#", "# name 6", "x", "call", "name", "budgets", "name 21", "budgets 0", "budgets 4097", "\t", "name 6 7", "name 06", "call 6 0", "#\xff", "\xff"}
	for n := range 21 {
		l = append(l, fmt.Sprint("name ", n), fmt.Sprint("budgets ", 100*n), fmt.Sprint("  name   ", n))
	}
	for n := range 150 {
		a := asked{s.below(22), s.four(), s.below(6), s.of(127, 128, 200, 512)}
		if n%3 == 0 {
			a = asked{s.below(21), s.numbers(), s.below(5), 128}
		}
		l = append(l, a.line())
	}
	l = append(l, asked{api.Cos, words(0x1p-300, 0), api.Down, 128}.line(), asked{api.Cos, words(0x1p-300, 0), api.Down, 1024}.line())
	return l
}

// P15.2: in whatever order lines stand, how often they do, and whatever stands
// beside them, each has the answer that it has alone.
func TestLinesShareNoState(t *testing.T) {
	t.Parallel()
	s := &source{6}
	l := someLines()
	alone := map[string]string{}
	for _, line := range l {
		alone[line] = script.Run(line)
	}
	check := func(l []string) {
		t.Helper()
		want := ""
		for _, line := range l {
			want += alone[line]
		}
		runs(t, strings.Join(l, "\n"), want)
		runs(t, strings.Join(l, "\n")+"\n", want)
	}
	check(l)
	turned := slices.Clone(l)
	slices.Reverse(turned)
	check(turned)
	for range 20 {
		check(s.shuffled(l))
	}
	check(append(slices.Clone(l), l...))
	for range 200 {
		check(s.shuffled(l)[:s.below(10)])
	}
	for _, line := range l[:80] {
		check([]string{line, line, line})
	}
}

// exactly answers a word's number.
func exactly(b uint64) *big.Rat {
	return new(big.Rat).SetFloat64(math.Float64frombits(b))
}

// product answers both components of a product, or of a quotient.
func product(tag int, z api.Four) [2]*big.Rat {
	x, y, u, v := exactly(z[0]), exactly(z[1]), exactly(z[2]), exactly(z[3])
	of := func(a, b *big.Rat) *big.Rat { return new(big.Rat).Mul(a, b) }
	if tag == api.Mul {
		return [2]*big.Rat{new(big.Rat).Sub(of(x, u), of(y, v)), new(big.Rat).Add(of(x, v), of(y, u))}
	}
	by := new(big.Rat).Inv(new(big.Rat).Add(of(u, u), of(v, v)))
	return [2]*big.Rat{of(new(big.Rat).Add(of(x, u), of(y, v)), by), of(new(big.Rat).Sub(of(y, u), of(x, v)), by)}
}

// P0.1: words of products and quotients by whole numbers alone.
func TestProductsAreSound(t *testing.T) {
	s := &source{7}
	for n := range 300 {
		tag, z := 4+n%2, s.numbers()
		for i, number := range product(tag, z) {
			low, isWord := number.Float64()
			if r := exactly(math.Float64bits(low)); r.Cmp(number) > 0 {
				low = math.Nextafter(low, math.Inf(-1))
			}
			top, flags := math.Nextafter(low, math.Inf(1)), 1
			if isWord {
				top, flags = low, 0
			}
			for mode, want := range map[int]float64{api.Down: low, api.Up: top} {
				a := asked{tag, z, mode, 128}
				if got := a.parts(t)[i]; got != (told{word: math.Float64bits(want), flags: flags}) {
					t.Errorf("%s: %x/%d, not %x/%d", a.line(), got.word, got.flags, math.Float64bits(want), flags)
				}
			}
		}
	}
}

// P0.2: what is decided is so with other budgets, too, and what isn't is told by
// words about it.
func TestBudgetsOfLines(t *testing.T) {
	s := &source{8}
	count := [2]int{}
	for n := range 500 {
		z := s.numbers()
		if n%4 == 0 {
			// Next to 0, where few bits often don't tell.
			z[0], z[1] = uint64(723)<<52|s.next()>>12, uint64(724)<<52|s.next()>>12
		}
		mode := s.below(5)
		few, many := asked{n % 21, z, mode, 128}, asked{n % 21, z, mode, 4096}
		if few.answer() == "reach" {
			answers(t, many.line(), "reach")
			continue
		}
		sure := many.parts(t)
		for i, p := range few.parts(t) {
			if p.isAbout {
				count[1]++
			} else {
				count[0]++
			}
			switch {
			case !p.isAbout && p != sure[i]:
				t.Errorf("%s: another answer with 4096 bits", few.line())
			case p.isAbout && !sure[i].isAbout && (isOrdered(sure[i].word, p.low) || isOrdered(p.top, sure[i].word)):
				t.Errorf("%s: beyond its words", few.line())
			}
		}
	}
	if count[0] < 300 || count[1] < 30 {
		t.Errorf("%d parts that are decided, %d that are not", count[0], count[1])
	}
}

// P0.3: odd functions are odd, even ones even, with modes that are turned.
func TestOddAndEvenLines(t *testing.T) {
	s := &source{9}
	count := 0
	for n := range 600 {
		tag := []int{api.Sin, api.Tan, api.Sinh, api.Tanh, api.Asin, api.Atan, api.Asinh, api.Atanh, api.Cos, api.Cosh}[n%10]
		z := s.numbers()
		a, b := asked{tag, z, n % 5, 512}, asked{tag, z, n % 5, 512}
		b.z[0] ^= sign
		b.z[1] ^= sign
		change := uint64(0)
		if tag != api.Cos && tag != api.Cosh {
			b.mode, change = turned[b.mode], sign
		}
		first, second := a.parts(t), b.parts(t)
		for i, p := range first {
			q := second[i]
			if p.isAbout || q.isAbout {
				continue
			}
			count++
			if p.word^change != q.word || p.flags != q.flags {
				t.Errorf("%s and %s: %v and %v", a.line(), b.line(), p, q)
			}
		}
	}
	if count < 1000 {
		t.Errorf("%d parts alone are decided", count)
	}
}

// P0.3: conjugates have conjugates, with Up and Down changed for the second part.
// The distance and the angle are no conjugates: they have one part alone.
func TestConjugatesOfLines(t *testing.T) {
	s := &source{13}
	for n := range 570 {
		tag, z, mode := 2+n%19, s.numbers(), s.below(5)
		conjugate := api.Four{z[0], z[1] ^ sign, z[2], z[3] ^ sign}
		a, b := asked{tag, z, mode, 512}, asked{tag, conjugate, mode, 512}
		if a.answer() == "reach" {
			answers(t, b.line(), "reach")
			continue
		}
		b.mode = turned[mode]
		second, other := a.parts(t)[1], b.parts(t)[1]
		b.mode = mode
		first, same := a.parts(t)[0], b.parts(t)[0]
		if !first.isAbout && !same.isAbout && first != same {
			t.Errorf("%s and %s: %v and %v", a.line(), b.line(), first, same)
		}
		other.word ^= sign
		if !second.isAbout && !other.isAbout && second != other {
			t.Errorf("%s and %s: %v and %v", a.line(), b.line(), second, other)
		}
	}
}

// P0.3: words don't fall where functions rise.
func TestRisingLines(t *testing.T) {
	for _, mode := range modes {
		last := math.Inf(-1)
		for x := -720.0; x <= 712; x += 8 {
			p := asked{api.Exp, words(x, 0), mode, 128}.parts(t)[0]
			if p.isAbout || isOrdered(p.word, math.Float64bits(last)) {
				t.Errorf("mode %d: %x at %v", mode, p.word, x)
			}
			last = math.Float64frombits(p.word)
		}
	}
}

// P0.4: each NaN is the one word, whatever it was.
func TestNaNIsOneWord(t *testing.T) {
	for _, text := range []string{"7ff8000000000000", "7ff0000000000001", "7fffffffffffffff", "fff8000000000000", "ffffffffffffffff", "fff0000000000001", "7ff4000000000000"} {
		for _, place := range []int{2, 3} {
			for tag := range 21 {
				line := replaced(asked{tag, words(0.5, 0.5), 0, 128}.line(), place, text)
				want := "7ff8000000000000/0 7ff8000000000000/0"
				switch {
				case tag == api.Conj && place == 2:
					want = "7ff8000000000000/0 bfe0000000000000/0"
				case tag == api.Proj && place == 2:
					want = "7ff8000000000000/0 3fe0000000000000/0"
				case tag == api.Conj || tag == api.Proj:
					want = "3fe0000000000000/0 7ff8000000000000/0"
				}
				answers(t, line, want)
			}
		}
	}
}
