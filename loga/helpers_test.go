package loga_test

import (
	"math/big"
	"slices"
	"sync"
	"testing"

	"volvelle/api"
	"volvelle/dyad"
	"volvelle/loga"
)

func calc(p int) *loga.Calc {
	c := &loga.Calc{}
	c.P = p
	return c
}

// float answers an empty one that keeps so many bits.
func float(bits uint) *big.Float {
	return new(big.Float).SetPrec(bits)
}

// logarithm answers that of 2, with more bits than any test asks for, as the sum
// of all 1/(k 2^k).
var logarithm = sync.OnceValue(func() *big.Float {
	const bits = 40000
	sum := new(big.Int)
	for k := uint(1); k <= bits; k++ {
		term := new(big.Int).Lsh(big.NewInt(1), bits-k)
		sum.Add(sum, term.Quo(term, big.NewInt(int64(k))))
	}
	x := float(bits).SetInt(sum)
	return x.SetMantExp(x, -bits)
})

// power answers bounds of e to the x that are 2^(50 - bits) of it apart: by them
// the tests tell whether a number is below a logarithm or above it.
func power(x *big.Float, bits uint) (low, high *big.Float) {
	work := bits + 40
	log := float(work).Set(logarithm())
	times, _ := float(work).Quo(x, log).Int64()
	rest := float(work).Mul(log, float(work).SetInt64(times))
	rest.Sub(float(work).Set(x), rest)
	sum, term := float(work).SetInt64(1), float(work).SetInt64(1)
	for n := int64(1); term.Sign() != 0 && term.MantExp(nil) > -int(work); n++ {
		term.Mul(term, rest)
		term.Quo(term, float(64).SetInt64(n))
		sum.Add(sum, term)
	}
	sum.SetMantExp(sum, int(times))
	lost := float(work).SetMantExp(sum, 49-int(bits))
	return float(work).Sub(sum, lost), float(work).Add(sum, lost)
}

// sides tells whether y is surely not above the logarithm of x, and whether it
// is surely not below. Powers are told so finely that what y's square adds to
// them is seen, and 200 bits of y behind the p first ones.
func sides(y *big.Float, x api.Dyad, p int) (under, over bool) {
	exact := toFloat(x)
	if y.Sign() == 0 {
		order := exact.Cmp(float(1).SetInt64(1))
		return order >= 0, order <= 0
	}
	low, high := power(y, uint(p+250+2*max(-y.MantExp(nil), 0)))
	return high.Cmp(exact) <= 0, low.Cmp(exact) >= 0
}

// holds tells whether the span surely has the logarithm of x.
func holds(a api.Span, x api.Dyad, p int) bool {
	under, _ := sides(toFloat(a.Lo), x, p)
	_, over := sides(toFloat(a.Hi), x, p)
	return under && over
}

// isTight tells whether no end of what is answered of from to to is farther off
// than told of a lone number: 2^(4 - p) of it nearer the other end, it would be
// on the wrong side.
func isTight(got, a api.Span, p int) bool {
	_, over := sides(inner(got.Lo, p, true), a.Lo, p)
	under, _ := sides(inner(got.Hi, p, false), a.Hi, p)
	return over && under
}

// inner answers what is 2^(4 - p) of x's size above it, or below.
func inner(x api.Dyad, p int, up bool) *big.Float {
	exact := toFloat(x)
	step := float(0).SetMantExp(float(0).Abs(exact), 4-p)
	if !up {
		step.Neg(step)
	}
	return float(exact.Prec()+uint(p)+64).Add(exact, step)
}

// toFloat answers a plain dyad exactly.
func toFloat(d api.Dyad) *big.Float {
	n := new(big.Int)
	for _, x := range slices.Backward(d.M) {
		n.Or(n.Lsh(n, 64), new(big.Int).SetUint64(x))
	}
	if d.Neg {
		n.Neg(n)
	}
	x := float(max(uint(n.BitLen()), 1)).SetInt(n)
	return x.SetMantExp(x, d.E)
}

// width answers how wide a right span is, not below that.
func width(a api.Span) *big.Float {
	return float(1<<15).Sub(toFloat(a.Hi), toFloat(a.Lo))
}

// isWithin tells whether a right span is 2^(-bits) times its greater end's size
// wide at most.
func isWithin(a api.Span, bits int) bool {
	wide := width(a)
	wide.SetMantExp(wide, bits)
	low, high := toFloat(a.Lo), toFloat(a.Hi)
	return wide.Cmp(low.Abs(low)) <= 0 || wide.Cmp(high.Abs(high)) <= 0
}

// isNarrow tells whether it is relatively narrow.
func isNarrow(a api.Span, p int) bool {
	return isWithin(a, p-4)
}

func isRight(a api.Span) bool {
	order, ok := dyad.Cmp(a.Lo, a.Hi)
	return ok && order <= 0
}

// meet tells whether two spans have a number in common.
func meet(a, b api.Span) bool {
	x, okX := dyad.Cmp(a.Lo, b.Hi)
	y, okY := dyad.Cmp(b.Lo, a.Hi)
	return okX && okY && x <= 0 && y <= 0
}

// number answers n times 2 to the e.
func number(n int64, e int) api.Dyad {
	size := uint64(n)
	if n < 0 {
		size = -size
	}
	d, ok := dyad.Make(n < 0, []uint64{size}, e)
	if !ok {
		panic("no plain number")
	}
	return d
}

// above answers what lies 2 to the e above d.
func above(d api.Dyad, e int) api.Dyad {
	return sum(d, number(1, e))
}

// below answers what lies 2 to the e below d.
func below(d api.Dyad, e int) api.Dyad {
	return sum(d, number(-1, e))
}

func sum(a, b api.Dyad) api.Dyad {
	d, ok := dyad.Sum(a, b)
	if !ok {
		panic("no plain sum")
	}
	return d
}

func point(d api.Dyad) api.Span {
	return api.Span{Lo: d, Hi: d}
}

func between(low, high api.Dyad) api.Span {
	return api.Span{Lo: low, Hi: high}
}

func negative(d api.Dyad) api.Dyad {
	d.Neg = !d.Neg && len(d.M) > 0
	return d
}

// one is the number whose logarithm is told just.
func one() api.Dyad {
	return number(1, 0)
}

// least and most answer the ends of what is in reach.
func least() api.Dyad { return number(1, -20000) }
func most() api.Dyad  { return number(1, 20000) }

func sameDyad(a, b api.Dyad) bool {
	return a.Neg == b.Neg && a.E == b.E && slices.Equal(a.M, b.M)
}

func same(a, b api.Span) bool {
	return sameDyad(a.Lo, b.Lo) && sameDyad(a.Hi, b.Hi)
}

func isZero(a api.Span) bool {
	return same(a, api.Span{})
}

// copied answers a span in memory of its own.
func copied(a api.Span) api.Span {
	a.Lo.M = slices.Clone(a.Lo.M)
	a.Hi.M = slices.Clone(a.Hi.M)
	return a
}

// source is a source of numbers that is the same in each run.
type source struct{ state uint64 }

func (s *source) next() uint64 {
	s.state += 0x9E3779B97F4A7C15
	x := s.state
	x = (x ^ x>>30) * 0xBF58476D1CE4E5B9
	x = (x ^ x>>27) * 0x94D049BB133111EB
	return x ^ x>>31
}

func (s *source) below(n int) int {
	return int(s.next() % uint64(n))
}

// number answers one above 0 of up to so many words, whose top is told.
func (s *source) number(words, top int) api.Dyad {
	m := make([]uint64, 1+s.below(words))
	for i := range m {
		m[i] = s.next()
	}
	m[0] |= 1
	m[len(m)-1] |= 1 << 63
	d, ok := dyad.Make(false, m, top-64*len(m))
	if !ok {
		panic("no plain number")
	}
	return d
}

// around answers one of up to so many words that is less than 2 to the top away
// from 1, above or below, and at least half as far.
func (s *source) around(words, top int) api.Dyad {
	off := s.number(words, top)
	off.Neg = s.next()%2 == 0
	return sum(one(), off)
}

// anywhere answers one of any size in reach, often near 1.
func (s *source) anywhere(words int) api.Dyad {
	switch s.below(4) {
	case 0:
		return s.around(words, -s.below(200))
	case 1:
		return s.number(words, 4-s.below(7))
	case 2:
		return s.number(words, 100-s.below(200))
	}
	return s.number(words, 20000-s.below(40000))
}

// span answers one of two numbers.
func (s *source) span(words int) api.Span {
	a, b := s.anywhere(words), s.anywhere(words)
	if order, _ := dyad.Cmp(a, b); order > 0 {
		a, b = b, a
	}
	return between(a, b)
}

// show tells a number by its first digits and its last ones.
func show(d api.Dyad) string {
	text := toFloat(d).Text('p', 0)
	if len(text) > 80 {
		text = text[:40] + ".." + text[len(text)-38:]
	}
	return text
}

func showSpan(a api.Span) string {
	return show(a.Lo) + " to " + show(a.Hi)
}

// answered is the call of a good calc that stays good, and whose answer is
// right.
func answered(t *testing.T, p int, a api.Span) api.Span {
	t.Helper()
	c := calc(p)
	got := c.Log(a)
	if c.Bad || c.P != p || !isRight(got) {
		t.Fatalf("Log of %s with %d bits: %v, bad %v, %d bits later", showSpan(a), p, got, c.Bad, c.P)
	}
	return got
}
