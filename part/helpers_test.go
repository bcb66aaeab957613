package part_test

import (
	"math"
	"math/big"
	"slices"
	"strconv"
	"testing"

	"volvelle/api"
	"volvelle/arc"
	"volvelle/bits"
	"volvelle/dyad"
	"volvelle/part"
)

const (
	sign     uint64 = 1 << 63
	infinity uint64 = 0x7FF0000000000000

	leastSmall     uint64 = 1
	greatestSmall  uint64 = 1<<52 - 1
	leastNormal    uint64 = 1 << 52
	greatestNormal uint64 = 0x7FEFFFFFFFFFFFFF

	one   uint64 = 0x3FF0000000000000
	bound uint64 = 0x40E0000000000000 // of 32768
)

// notNumbers answers words that stand for no numbers.
func notNumbers() []uint64 {
	return []uint64{
		infinity, infinity | sign, api.NaN, api.NaN | sign, infinity + 1, infinity | sign | 1, math.MaxUint64, math.MaxUint64 >> 1,
		0x7FF7FFFFFFFFFFFF, 0xFFF4000000000000,
	}
}

// notTags answers integers that name no function.
func notTags() []int {
	return []int{-1, 21, 22, 32, 255, 256, 1 << 32, 1<<32 + 4, -21, -256, math.MaxInt, math.MinInt, math.MinInt + 6}
}

// tags answers those of all functions.
func tags() []int {
	var l []int
	for tag := range 21 {
		l = append(l, tag)
	}
	return l
}

// takesTwo tells whether u and v count.
func takesTwo(tag int) bool {
	return tag == api.Mul || tag == api.Div
}

// isBounded tells whether x and y have to be 32768 at most in size.
func isBounded(tag int) bool {
	return tag == api.Exp || tag >= api.Sin && tag <= api.Tanh
}

// word answers the word of a number of the language.
func word(x float64) uint64 {
	return math.Float64bits(x)
}

// at answers four words: of x and y, and, where these count, some of u and v.
func at(x, y uint64) api.Four {
	return api.Four{x, y, word(-1.25), word(0.7)}
}

func words(x, y float64) api.Four {
	return at(word(x), word(y))
}

func calc(p int) *arc.Calc {
	c := &arc.Calc{}
	c.P = p
	return c
}

// source gives numbers that are the same in each run.
type source struct{ state uint64 }

func (s *source) next() uint64 {
	s.state += 0x9E3779B97F4A7C15
	x := s.state
	x = (x ^ x>>30) * 0xBF58476D1CE4E5B9
	x = (x ^ x>>27) * 0x94D049BB133111EB
	return x ^ x>>31
}

func (s *source) below(n int) int {
	return int(s.next() % uint64(n))
}

// word answers one of a number from 2^low on and below 2^high in size, with many
// bits or with few.
func (s *source) word(low, high int) uint64 {
	exponent := uint64(1023 + low + s.below(high-low))
	fraction := s.next() >> 12
	switch s.below(4) {
	case 0:
		fraction = fraction >> 44 << 44
	case 1:
		fraction = (fraction>>51)*greatestSmall ^ uint64(s.below(4))
	}
	return s.next()&sign | exponent<<52 | fraction
}

// ordinary answers a word of a number of 2^-20 to 2^21 in size, often near 1, or
// a zero.
func (s *source) ordinary() uint64 {
	switch s.below(8) {
	case 0:
		return s.next() & sign
	case 1:
		return s.next()&sign | one + uint64(s.below(9)) - 4
	case 2, 3:
		return s.word(-3, 3)
	}
	return s.word(-20, 21)
}

// near answers an ordinary word that is in reach of a function.
func (s *source) near(tag int) uint64 {
	for {
		if b := s.ordinary(); !isBounded(tag) || b&^sign <= bound {
			return b
		}
	}
}

// four answers ordinary words at which a function isn't singular.
func (s *source) four(tag int) api.Four {
	for {
		z := api.Four{s.near(tag), s.near(tag), s.ordinary(), s.ordinary()}
		if !part.Singular(tag, z) {
			return z
		}
	}
}

// exactly answers a plain dyad as the library has it.
func exactly(d api.Dyad) *big.Float {
	n := new(big.Int)
	for _, x := range slices.Backward(d.M) {
		n.Or(n.Lsh(n, 64), new(big.Int).SetUint64(x))
	}
	if d.Neg {
		n.Neg(n)
	}
	x := new(big.Float).SetPrec(uint(max(n.BitLen(), 1))).SetInt(n)
	return x.SetMantExp(x, d.E)
}

// number answers n times 2 to the e.
func number(n int64, e int) api.Dyad {
	d, ok := dyad.Make(n < 0, []uint64{uint64(max(n, -n))}, e)
	if !ok {
		panic("no plain number")
	}
	return d
}

func point(d api.Dyad) api.Span {
	return api.Span{Lo: d, Hi: d}
}

func sameDyad(a, b api.Dyad) bool {
	return a.Neg == b.Neg && a.E == b.E && slices.Equal(a.M, b.M)
}

func same(a, b api.Span) bool {
	return sameDyad(a.Lo, b.Lo) && sameDyad(a.Hi, b.Hi)
}

func sameBoth(a, b [2]api.Span) bool {
	return same(a[0], b[0]) && same(a[1], b[1])
}

func isNone(a [2]api.Span) bool {
	return sameBoth(a, [2]api.Span{})
}

func isRight(a api.Span) bool {
	order, ok := dyad.Cmp(a.Lo, a.Hi)
	return ok && order <= 0
}

func isLone(a api.Span) bool {
	return isRight(a) && sameDyad(a.Lo, a.Hi)
}

// meet tells whether two spans have a number in common.
func meet(a, b api.Span) bool {
	x, okX := dyad.Cmp(a.Lo, b.Hi)
	y, okY := dyad.Cmp(b.Lo, a.Hi)
	return okX && okY && x <= 0 && y <= 0
}

// holds tells whether a right span has a number.
func holds(a api.Span, x *big.Float) bool {
	return exactly(a.Lo).Cmp(x) <= 0 && x.Cmp(exactly(a.Hi)) <= 0
}

// isWithin tells whether a right span is 2^(-bits) times its greater end's size
// wide at most.
func isWithin(a api.Span, bits int) bool {
	low, high := exactly(a.Lo), exactly(a.Hi)
	wide := new(big.Float).SetPrec(1<<15).SetMode(big.ToPositiveInf).Sub(high, low)
	wide.SetMantExp(wide, bits)
	return wide.Cmp(low.Abs(low)) <= 0 || wide.Cmp(high.Abs(high)) <= 0
}

// show tells a number by its first digits.
func show(d api.Dyad) string {
	return exactly(d).Text('g', 30)
}

func showSpan(a api.Span) string {
	return show(a.Lo) + " to " + show(a.Hi)
}

// showCall tells a function and words.
func showCall(tag int, z api.Four) string {
	text := "function " + strconv.Itoa(tag) + " of"
	for _, b := range z {
		text += " " + strconv.FormatFloat(math.Float64frombits(b), 'g', -1, 64)
	}
	return text
}

// enclosed is what a good calc that stays good answers; it has to be right.
func enclosed(t *testing.T, p, tag int, z api.Four) [2]api.Span {
	t.Helper()
	c := calc(p)
	got := part.Enclose(c, tag, z)
	if c.Bad || c.P != p || !isRight(got[0]) || !isRight(got[1]) {
		t.Fatalf("%s with %d bits: %v, bad %v, %d bits later", showCall(tag, z), p, got, c.Bad, c.P)
	}
	return got
}

// numberOf answers the number of a word that one stands for.
func numberOf(b uint64) api.Dyad {
	d, ok := bits.Number(b)
	if !ok {
		panic("no number")
	}
	return d
}
