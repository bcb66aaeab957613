package cmath_test

import (
	"math"
	"testing"

	"volvelle/api"
	"volvelle/cmath"
	"volvelle/exact"
	"volvelle/part"
	"volvelle/special"
)

// P14.4, P14.5 and P0.4: what has to be decided.

func TestMulIsDecided(t *testing.T) {
	t.Parallel()
	s := &source{1}
	for n := range 20000 {
		z := s.anyFour()
		if n%2 == 0 {
			z = api.Four{s.next(), s.next(), s.next(), s.next()}
		}
		mode, budget := s.of(modes[:]...), s.of(128, 129, 4096)
		if got := cmath.Call(api.Mul, z, mode, budget); !isDecided(got) {
			t.Fatalf("%s: %s", showCall(api.Mul, z, mode, budget), show(got))
		}
	}
}

// Quotients, distances and roots are decided with the bits that they have, too.
func TestAlgebraIsDecided(t *testing.T) {
	t.Parallel()
	s := &source{2}
	for n := range 3000 {
		z, tag := s.anyFour(), []int{api.Abs, api.Div, api.Sqrt}[n%3]
		if got := cmath.Call(tag, z, s.of(modes[:]...), 128); !isDecided(got) {
			t.Fatalf("%s: %s", showCall(tag, z, 0, 128), show(got))
		}
	}
}

// What is special, and what is known, is decided, with the tables' words, whatever
// the mode and the budget are.
func TestTablesAreDecided(t *testing.T) {
	t.Parallel()
	s := &source{3}
	count := [2]int{}
	for n := range 12600 {
		tag, z, mode, budget := n%21, s.anyFour(), s.of(modes[:]...), s.of(128, 129, 256)
		if n%2 == 0 {
			z = api.Four{z[0] & sign, s.near(tag), s.next() & sign, s.next() & sign}
		}
		words, flags, isSpecial := special.Special(tag, z)
		facts := exact.Known(tag, z)
		if !isSpecial && !facts[0].Is && !facts[1].Is {
			continue
		}
		got := cmath.Call(tag, z, mode, budget)
		for i, fact := range facts {
			switch {
			case isSpecial:
				count[0]++
				if got[i] != is(words[i], flags) {
					t.Fatalf("%s, %d: %s", showCall(tag, z, mode, budget), i, showPart(got[i]))
				}
			case fact.Is:
				count[1]++
				if got[i] != is(fact.Word, 0) {
					t.Fatalf("%s, %d: %s", showCall(tag, z, mode, budget), i, showPart(got[i]))
				}
			}
		}
	}
	if count[0] < 1000 || count[1] < 1000 {
		t.Errorf("%v tables' words", count)
	}
}

// checkDecided asks that what lies, with all that is nearer to it than 2^-100
// times its size, at one word of the mode is decided, and answers how much does.
func checkDecided(t *testing.T, tag int, z api.Four, budget int) (count int) {
	t.Helper()
	facts := exact.Known(tag, z)
	for i, e := range reference(tag, z) {
		if facts[i].Is {
			continue
		}
		// The ends lie next to each other: between them and the component there is
		// next to nothing.
		wide := [2]ends{about(e.low, 100), about(e.high, 100)}
		low, high := exactly(wide[0].low).locate(), exactly(wide[1].high).locate()
		for _, mode := range modes {
			word, flags := low.rounded(mode)
			other, others := high.rounded(mode)
			if word != other || flags != others {
				continue
			}
			count++
			if got := cmath.Call(tag, z, mode, budget)[i]; got != is(word, flags) {
				t.Errorf("%s, %d: %s, not %x/%d", showCall(tag, z, mode, budget), i, showPart(got), word, flags)
			}
		}
	}
	return count
}

func TestOrdinaryWordsAreDecided(t *testing.T) {
	each(t, transcendental(), func(t *testing.T, tag int) {
		s := &source{uint64(900 + tag)}
		count := 0
		for range 40 {
			count += checkDecided(t, tag, s.four(tag), s.of(512, 513, 600, 4096))
		}
		if count < 100 {
			t.Errorf("function %d: %d have to be decided", tag, count)
		}
	})
}

// The ends of what the promise speaks of, beside zeros, 1, and where sines and
// cosines are next to 0.
func TestEndsAreDecided(t *testing.T) {
	l := []uint64{0, word(0x1p-20), one - 1, word(-0x1p-20), word(-math.Pi / 2), bound, word(0x1p21), word(-0x1p21), bound | sign}
	each(t, transcendental(), func(t *testing.T, tag int) {
		for i, x := range l {
			for _, y := range l[i%2:] {
				z := at(x, y)
				if part.InReach(tag, z) && !isSingular(tag, z) {
					checkDecided(t, tag, z, 512)
				}
			}
		}
	})
}

// Algebraic functions: all of them, with 512 bits, too.
func TestAlgebraOfOrdinaryWordsIsDecided(t *testing.T) {
	each(t, algebraic(), func(t *testing.T, tag int) {
		s := &source{uint64(950 + tag)}
		for range 60 {
			z := s.four(tag)
			for i, a := range byWholes(tag, z) {
				l := a.locate()
				if l.isZero {
					continue
				}
				for _, mode := range modes {
					word, flags := l.rounded(mode)
					if got := cmath.Call(tag, z, mode, 512)[i]; got != is(word, flags) {
						t.Errorf("%s, %d: %s, not %x/%d", showCall(tag, z, mode, 512), i, showPart(got), word, flags)
					}
				}
			}
		}
	})
}
