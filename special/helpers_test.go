package special_test

import (
	"math"
	"strconv"
	"testing"

	"volvelle/api"
	"volvelle/special"
)

const (
	sign     uint64 = 1 << 63
	infinity uint64 = 0x7FF0000000000000

	leastSmall    uint64 = 1
	greatestSmall uint64 = 1<<52 - 1
	leastNormal   uint64 = 1 << 52
	greatest      uint64 = 0x7FEFFFFFFFFFFFFF

	one   uint64 = 0x3FF0000000000000
	three uint64 = 0x4008000000000000
	bound uint64 = 0x40E0000000000000 // of 32768
)

// told: what Special answers.
type told struct {
	words [2]uint64
	flags int
	is    bool
}

func toldOf(tag int, z api.Four) told {
	words, flags, is := special.Special(tag, z)
	return told{words, flags, is}
}

// tells compares what is told with the words and the flags of what is special.
func tells(t *testing.T, tag int, z api.Four, first, second uint64, flags int) {
	t.Helper()
	same(t, tag, z, told{[2]uint64{first, second}, flags, true})
}

// tellsNothing asks for zeros and false.
func tellsNothing(t *testing.T, tag int, z api.Four) {
	t.Helper()
	same(t, tag, z, told{})
}

func same(t *testing.T, tag int, z api.Four, want told) {
	t.Helper()
	if got := toldOf(tag, z); got != want {
		t.Errorf("%s: %s, not %s", showCall(tag, z), show(got), show(want))
	}
}

// noNumbers answers words that are no numbers: of both signs, quiet or not,
// with all sorts of lower bits.
func noNumbers() []uint64 {
	l := []uint64{api.NaN, api.NaN + 1, math.MaxUint64 >> 1, infinity + 1, 0x7FF7FFFFFFFFFFFF, 0x7FF4000000000000, 0x7FF0000080000000, 0x7FFDEADBEEF12345}
	for _, b := range l {
		l = append(l, b|sign)
	}
	return l
}

// notTags answers integers that name no function.
func notTags() []int {
	return []int{-1, 21, 22, 32, 255, 256, 1 << 32, 1<<32 + 4, -21, -256, math.MaxInt, math.MinInt, math.MinInt + 6}
}

// takesTwo tells whether u and v count.
func takesTwo(tag int) bool {
	return tag == api.Mul || tag == api.Div
}

func isZero(b uint64) bool {
	return b&^sign == 0
}

func isInfinite(b uint64) bool {
	return b&^sign == infinity
}

func isNotOne(b uint64) bool {
	return b&^sign > infinity
}

// counted answers the words that count.
func counted(tag int, z api.Four) []uint64 {
	if takesTwo(tag) {
		return z[:]
	}
	return z[:2]
}

// counts tells how many of the words that count are as is asked.
func counts(tag int, z api.Four, is func(uint64) bool) int {
	n := 0
	for _, b := range counted(tag, z) {
		if is(b) {
			n++
		}
	}
	return n
}

// word answers the word of a number of the language.
func word(x float64) uint64 {
	return math.Float64bits(x)
}

// source gives numbers that are the same in each run.
type source struct{ state uint64 }

func (s *source) next() uint64 {
	s.state += 0x9E3779B97F4A7C15
	x := s.state
	x = (x ^ x>>30) * 0xBF58476D1CE4E5B9
	x = (x ^ x>>27) * 0x94D049BB133111EB
	return x ^ x>>31
}

func (s *source) below(n int) int {
	return int(s.next() % uint64(n))
}

// word answers one of any kind.
func (s *source) word() uint64 {
	side := s.next() & sign
	switch s.below(6) {
	case 0:
		return side
	case 1:
		return side | infinity
	case 2:
		return side | one
	case 3:
		return side | infinity | max(1, s.next()>>12>>s.below(52))
	case 4:
		return side | []uint64{leastSmall, greatestSmall, leastNormal, greatest, bound, bound + 1, one - 1, one + 1}[s.below(8)]
	}
	return s.next()
}

// four answers words of any kinds.
func (s *source) four() api.Four {
	return api.Four{s.word(), s.word(), s.word(), s.word()}
}

// show tells what is told by the words.
func show(l told) string {
	if l == (told{}) {
		return "nothing"
	}
	text := hex(l.words[0]) + " and " + hex(l.words[1]) + " with the flags " + strconv.Itoa(l.flags)
	if !l.is {
		text += " of what isn't special"
	}
	return text
}

func hex(b uint64) string {
	return strconv.FormatUint(b, 16)
}

// showCall tells a function and words.
func showCall(tag int, z api.Four) string {
	text := "function " + strconv.Itoa(tag) + " of"
	for _, b := range z {
		text += " " + hex(b)
	}
	return text
}
