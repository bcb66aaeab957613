package cmath_test

import (
	"fmt"
	"math"
	"strconv"
	"testing"

	"volvelle/api"
	"volvelle/cmath"
)

const (
	sign     uint64 = 1 << 63
	infinity uint64 = 0x7FF0000000000000

	leastSmall    uint64 = 1
	greatestSmall uint64 = 1<<52 - 1
	leastNormal   uint64 = 1 << 52
	greatest      uint64 = 0x7FEFFFFFFFFFFFFF

	one   uint64 = 0x3FF0000000000000
	bound uint64 = 0x40E0000000000000 // of 32768

	inexact   = api.Inexact
	overflow  = api.Inexact | api.Overflow
	underflow = api.Inexact | api.Underflow
)

// All modes, and what these are of numbers on the other side of 0.
var (
	modes  = [5]int{api.Even, api.Cut, api.Up, api.Down, api.Away}
	turned = [5]int{api.Even, api.Cut, api.Down, api.Up, api.Away}
)

// tags answers those of all functions.
func tags() []int {
	var l []int
	for tag := range 21 {
		l = append(l, tag)
	}
	return l
}

// isExact tells whether a function is worked by whole numbers alone.
func isExact(tag int) bool {
	return tag == api.Abs || takesTwo(tag) || tag == api.Sqrt
}

// takesTwo tells whether u and v count.
func takesTwo(tag int) bool {
	return tag == api.Mul || tag == api.Div
}

// isBounded tells whether x and y have to be 32768 at most in size.
func isBounded(tag int) bool {
	return tag == api.Exp || tag >= api.Sin && tag <= api.Tanh
}

// isSingular tells whether a function has no number at words of numbers.
func isSingular(tag int, z api.Four) bool {
	switch tag {
	case api.Log:
		return isZero(z[0]) && isZero(z[1])
	case api.Div:
		return isZero(z[2]) && isZero(z[3])
	case api.Atan:
		return isZero(z[0]) && z[1]&^sign == one
	case api.Atanh:
		return z[0]&^sign == one && isZero(z[1])
	}
	return false
}

func isZero(b uint64) bool {
	return b&^sign == 0
}

func isNumber(b uint64) bool {
	return b&^sign < infinity
}

// each runs a test of each of some functions beside the others.
func each(t *testing.T, l []int, test func(t *testing.T, tag int)) {
	t.Parallel()
	for _, tag := range l {
		t.Run(fmt.Sprint(tag), func(t *testing.T) {
			t.Parallel()
			test(t, tag)
		})
	}
}

// word answers the word of a number of the language.
func word(x float64) uint64 {
	return math.Float64bits(x)
}

// at answers four words: of x and y, and of some u and v.
func at(x, y uint64) api.Four {
	return api.Four{x, y, word(-1.25), word(0.7)}
}

// side answers the sign of 0 or of 1, of other integers that of the last bit.
func side(n int) uint64 {
	return uint64(n&1) << 63
}

func words(x, y float64) api.Four {
	return at(word(x), word(y))
}

// both answers z and w of the numbers of the language.
func both(x, y, u, v float64) api.Four {
	return api.Four{word(x), word(y), word(u), word(v)}
}

// source gives numbers that are the same in each run.
type source struct{ state uint64 }

func (s *source) next() uint64 {
	s.state += 0x9E3779B97F4A7C15
	x := s.state
	x = (x ^ x>>30) * 0xBF58476D1CE4E5B9
	x = (x ^ x>>27) * 0x94D049BB133111EB
	return x ^ x>>31
}

func (s *source) below(n int) int {
	return int(s.next() % uint64(n))
}

// of answers one of some numbers.
func (s *source) of(l ...int) int {
	return l[s.below(len(l))]
}

// word answers one of a number from 2^low on and below 2^high in size, with many
// bits or with few.
func (s *source) word(low, high int) uint64 {
	exponent := uint64(1023 + low + s.below(high-low))
	fraction := s.next() >> 12
	switch s.below(4) {
	case 0:
		fraction = fraction >> 44 << 44
	case 1:
		fraction = (fraction>>51)*greatestSmall ^ uint64(s.below(4))
	}
	return s.next()&sign | exponent<<52 | fraction
}

// ordinary answers a word of a number of 2^-20 to 2^21 in size, often near 1, or
// a zero.
func (s *source) ordinary() uint64 {
	switch s.below(8) {
	case 0:
		return s.next() & sign
	case 1:
		return s.next()&sign | one + uint64(s.below(9)) - 4
	case 2, 3:
		return s.word(-3, 3)
	}
	return s.word(-20, 21)
}

// near answers an ordinary word that is in reach of a function.
func (s *source) near(tag int) uint64 {
	for {
		if b := s.ordinary(); !isBounded(tag) || b&^sign <= bound {
			return b
		}
	}
}

// four answers ordinary words at which a function isn't singular.
func (s *source) four(tag int) api.Four {
	for {
		z := api.Four{s.near(tag), s.near(tag), s.ordinary(), s.ordinary()}
		if !isSingular(tag, z) {
			return z
		}
	}
}

// any answers a word of any kind.
func (s *source) any() uint64 {
	side := s.next() & sign
	switch s.below(8) {
	case 0:
		return side
	case 1:
		return side | infinity
	case 2:
		return side | infinity | max(1, s.next()>>12>>s.below(52))
	case 3:
		return side | []uint64{leastSmall, greatestSmall, leastNormal, greatest, bound, bound + 1, one - 1, one, one + 1}[s.below(9)]
	case 4:
		return side | s.next()&greatestSmall>>s.below(52)
	case 5, 6:
		return s.ordinary()
	}
	return s.next()
}

// anyFour answers words of any kinds.
func (s *source) anyFour() api.Four {
	return api.Four{s.any(), s.any(), s.any(), s.any()}
}

// bare answers two parts of which nothing but the status is told.
func bare(status int) [2]api.Part {
	return [2]api.Part{{Status: status}, {Status: status}}
}

// is answers a part that is Decided.
func is(word uint64, flags int) api.Part {
	return api.Part{Status: api.Decided, Word: word, Flags: flags}
}

// isDecided tells whether both parts are.
func isDecided(l [2]api.Part) bool {
	return l[0].Status == api.Decided && l[1].Status == api.Decided
}

// answers compares both parts of a call.
func answers(t *testing.T, tag int, z api.Four, mode, budget int, want [2]api.Part) {
	t.Helper()
	if got := cmath.Call(tag, z, mode, budget); got != want {
		t.Errorf("%s: %s, not %s", showCall(tag, z, mode, budget), show(got), show(want))
	}
}

func hex(b uint64) string {
	return strconv.FormatUint(b, 16)
}

func showPart(p api.Part) string {
	text := fmt.Sprintf("status %d", p.Status)
	if p.Word != 0 || p.Flags != 0 || p.Status == api.Decided {
		text += fmt.Sprintf(" %x/%d", p.Word, p.Flags)
	}
	if p.Lo != 0 || p.Hi != 0 || p.Status == api.Undecided {
		text += fmt.Sprintf(" %x,%x", p.Lo, p.Hi)
	}
	return text
}

// show tells both parts.
func show(l [2]api.Part) string {
	return showPart(l[0]) + " and " + showPart(l[1])
}

// showCall tells what is asked.
func showCall(tag int, z api.Four, mode, budget int) string {
	text := fmt.Sprintf("function %d of", tag)
	for _, b := range z {
		text += " " + hex(b)
	}
	return text + fmt.Sprintf(" in mode %d with %d bits", mode, budget)
}
