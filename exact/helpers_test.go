package exact_test

import (
	"math"
	"strconv"
	"testing"

	"volvelle/api"
	"volvelle/arc"
	"volvelle/bits"
	"volvelle/dyad"
	"volvelle/exact"
	"volvelle/part"
)

const (
	sign     uint64 = 1 << 63
	infinity uint64 = 0x7FF0000000000000

	leastSmall    uint64 = 1
	greatestSmall uint64 = 1<<52 - 1
	leastNormal   uint64 = 1 << 52
	greatest      uint64 = 0x7FEFFFFFFFFFFFFF

	one   uint64 = 0x3FF0000000000000
	four  uint64 = 0x4010000000000000
	bound uint64 = 0x40E0000000000000 // of 32768
)

// notNumbers answers words that stand for no numbers.
func notNumbers() []uint64 {
	return []uint64{
		infinity, infinity | sign, api.NaN, api.NaN | sign, infinity + 1, infinity | sign | 1, math.MaxUint64, math.MaxUint64 >> 1,
		0x7FF7FFFFFFFFFFFF, 0xFFF4000000000000,
	}
}

// notTags answers integers that name no function.
func notTags() []int {
	return []int{-1, 21, 22, 32, 255, 256, 1 << 32, 1<<32 + 4, -21, -256, math.MaxInt, math.MinInt, math.MinInt + 6}
}

// tags answers those of all functions.
func tags() []int {
	var l []int
	for tag := range 21 {
		l = append(l, tag)
	}
	return l
}

// takesTwo tells whether u and v count.
func takesTwo(tag int) bool {
	return tag == api.Mul || tag == api.Div
}

// isBounded tells whether x and y have to be 32768 at most in size.
func isBounded(tag int) bool {
	return tag == api.Exp || tag >= api.Sin && tag <= api.Tanh
}

// isOdd tells whether a function of the middle's other side is its other side.
func isOdd(tag int) bool {
	switch tag {
	case api.Conj, api.Proj, api.Sin, api.Tan, api.Sinh, api.Tanh, api.Asin, api.Atan, api.Asinh, api.Atanh:
		return true
	}
	return false
}

func isEven(tag int) bool {
	return tag == api.Abs || tag == api.Cos || tag == api.Cosh
}

// word answers the word of a number of the language.
func word(x float64) uint64 {
	return math.Float64bits(x)
}

// source gives numbers that are the same in each run.
type source struct{ state uint64 }

func (s *source) next() uint64 {
	s.state += 0x9E3779B97F4A7C15
	x := s.state
	x = (x ^ x>>30) * 0xBF58476D1CE4E5B9
	x = (x ^ x>>27) * 0x94D049BB133111EB
	return x ^ x>>31
}

func (s *source) below(n int) int {
	return int(s.next() % uint64(n))
}

// word answers one of a number from 2^low on and below 2^high in size, with many
// bits or with few.
func (s *source) word(low, high int) uint64 {
	exponent := uint64(1023 + low + s.below(high-low))
	fraction := s.next() >> 12
	switch s.below(4) {
	case 0:
		fraction = fraction >> 44 << 44
	case 1:
		fraction = (fraction>>51)*greatestSmall ^ uint64(s.below(4))
	}
	return s.next()&sign | exponent<<52 | fraction
}

// near answers a word in reach of a function: a zero, one next to 1, one of any
// kind.
func (s *source) near(tag int) uint64 {
	switch s.below(8) {
	case 0, 1, 2:
		return s.next() & sign
	case 3:
		return s.next()&sign | one + uint64(s.below(5)) - 2
	case 4:
		return s.next()&sign | []uint64{leastSmall, greatestSmall, leastNormal, bound, four}[s.below(5)]
	}
	if isBounded(tag) {
		return s.word(-40, 15)
	}
	return s.word(-1000, 1000)
}

// point answers words in reach at which a function isn't singular.
func (s *source) point(tag int) api.Four {
	for {
		z := api.Four{s.near(tag), s.near(tag), s.near(tag), s.near(tag)}
		if !part.Singular(tag, z) {
			return z
		}
	}
}

// conjugate answers z with the other sign of y.
func conjugate(z api.Four) api.Four {
	z[1] ^= sign
	return z
}

// turned answers z on the other side of the middle.
func turned(z api.Four) api.Four {
	z[0] ^= sign
	z[1] ^= sign
	return z
}

func is(b uint64) api.Fact {
	return api.Fact{Is: true, Word: b}
}

// other answers a known component with the other sign.
func other(f api.Fact) api.Fact {
	if f.Is {
		f.Word ^= sign
	}
	return f
}

func isZero(b uint64) bool {
	return b&^sign == 0
}

// numberOf answers the number of a word that one stands for.
func numberOf(b uint64) api.Dyad {
	d, ok := bits.Number(b)
	if !ok {
		panic("no number")
	}
	return d
}

// holds tells whether a right span has a number.
func holds(a api.Span, d api.Dyad) bool {
	low, okLow := dyad.Cmp(a.Lo, d)
	high, okHigh := dyad.Cmp(d, a.Hi)
	return okLow && okHigh && low <= 0 && high <= 0
}

// enclosed is what a good calc that stays good answers.
func enclosed(t *testing.T, p, tag int, z api.Four) [2]api.Span {
	t.Helper()
	c := &arc.Calc{}
	c.P = p
	got := part.Enclose(c, tag, z)
	if c.Bad {
		t.Fatalf("%s with %d bits isn't enclosed", showCall(tag, z), p)
	}
	return got
}

// knows compares what is told of both components.
func knows(t *testing.T, tag int, z api.Four, first, second api.Fact) {
	t.Helper()
	if got := exact.Known(tag, z); got != [2]api.Fact{first, second} {
		t.Errorf("%s: %s, not %s", showCall(tag, z), show(got), show([2]api.Fact{first, second}))
	}
}

// show tells what is known by the words.
func show(l [2]api.Fact) string {
	text := ""
	for i, f := range l {
		if i > 0 {
			text += " and "
		}
		if !f.Is && f.Word == 0 {
			text += "nothing"
			continue
		}
		if !f.Is {
			text += "of what isn't known "
		}
		text += strconv.FormatUint(f.Word, 16)
	}
	return text
}

// showCall tells a function and words.
func showCall(tag int, z api.Four) string {
	text := "function " + strconv.Itoa(tag) + " of"
	for _, b := range z {
		text += " " + strconv.FormatFloat(math.Float64frombits(b), 'g', -1, 64)
	}
	return text
}
