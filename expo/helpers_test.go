package expo_test

import (
	"math/big"
	"slices"
	"sync"
	"testing"

	"volvelle/api"
	"volvelle/dyad"
	"volvelle/expo"
)

// A function is a call of the layer, with what tells the tests what it should
// come to.
type function struct {
	name string
	call func(c *expo.Calc, a api.Span) api.Span
	// about answers bounds of what comes of a number that isn't 0.
	about  func(x *big.Float, bits uint) (low, high *big.Float)
	atZero int64
}

func functions() []function {
	return []function{
		{"Exp", (*expo.Calc).Exp, power, 1},
		{"Sinh", (*expo.Calc).Sinh, sine, 0},
		{"Cosh", (*expo.Calc).Cosh, cosine, 1},
	}
}

func calc(p int) *expo.Calc {
	c := &expo.Calc{}
	c.P = p
	return c
}

// float answers an empty one that keeps so many bits.
func float(bits uint) *big.Float {
	return new(big.Float).SetPrec(bits)
}

// logarithm answers that of 2, with more bits than any test asks for, as the sum
// of all 1/(k 2^k).
var logarithm = sync.OnceValue(func() *big.Float {
	const bits = 40000
	sum := new(big.Int)
	for k := uint(1); k <= bits; k++ {
		term := new(big.Int).Lsh(big.NewInt(1), bits-k)
		sum.Add(sum, term.Quo(term, big.NewInt(int64(k))))
	}
	x := float(bits).SetInt(sum)
	return x.SetMantExp(x, -bits)
})

// power answers bounds of e to the x that are 2^(50 - bits) of it apart: x is
// made small by the logarithm of 2, otherwise than in the layer.
func power(x *big.Float, bits uint) (low, high *big.Float) {
	work := bits + 40
	log := float(work).Set(logarithm())
	times, _ := float(work).Quo(x, log).Int64()
	rest := float(work).Mul(log, float(work).SetInt64(times))
	rest.Sub(float(work).Set(x), rest)
	sum, term := float(work).SetInt64(1), float(work).SetInt64(1)
	for n := int64(1); term.Sign() != 0 && term.MantExp(nil) > -int(work); n++ {
		term.Mul(term, rest)
		term.Quo(term, float(64).SetInt64(n))
		sum.Add(sum, term)
	}
	sum.SetMantExp(sum, int(times))
	lost := float(work).SetMantExp(sum, 49-int(bits))
	return float(work).Sub(sum, lost), float(work).Add(sum, lost)
}

func sine(x *big.Float, bits uint) (low, high *big.Float) {
	low, high = power(x, bits)
	lowLess, highLess := power(float(0).Neg(x), bits)
	low.Sub(low, highLess)
	high.Sub(high, lowLess)
	return low.SetMantExp(low, -1), high.SetMantExp(high, -1)
}

func cosine(x *big.Float, bits uint) (low, high *big.Float) {
	low, high = power(x, bits)
	lowLess, highLess := power(float(0).Neg(x), bits)
	low.Add(low, lowLess)
	high.Add(high, highLess)
	return low.SetMantExp(low, -1), high.SetMantExp(high, -1)
}

// bounds answers what the function comes to at x, told so finely that what x
// adds to 1, or its cube to x, is seen, and 200 bits beyond p.
func (f function) bounds(x api.Dyad, p int) (low, high *big.Float) {
	if len(x.M) == 0 {
		return float(64).SetInt64(f.atZero), float(64).SetInt64(f.atZero)
	}
	exact := toFloat(x)
	return f.about(exact, uint(p+250+3*max(-exact.MantExp(nil), 0)))
}

// toFloat answers a plain dyad exactly.
func toFloat(d api.Dyad) *big.Float {
	n := new(big.Int)
	for _, x := range slices.Backward(d.M) {
		n.Or(n.Lsh(n, 64), new(big.Int).SetUint64(x))
	}
	if d.Neg {
		n.Neg(n)
	}
	x := float(max(uint(n.BitLen()), 1)).SetInt(n)
	return x.SetMantExp(x, d.E)
}

// holds tells whether the span has all from low to high.
func holds(a api.Span, low, high *big.Float) bool {
	return toFloat(a.Lo).Cmp(low) <= 0 && toFloat(a.Hi).Cmp(high) >= 0
}

// isNarrow tells whether a right span is 2^(4 - p) times its greater end's size
// wide at most.
func isNarrow(a api.Span, p int) bool {
	low, high := toFloat(a.Lo), toFloat(a.Hi)
	width := float(1<<15).Sub(high, low)
	width.SetMantExp(width, p-4)
	return width.Cmp(low.Abs(low)) <= 0 || width.Cmp(high.Abs(high)) <= 0
}

func isRight(a api.Span) bool {
	order, ok := dyad.Cmp(a.Lo, a.Hi)
	return ok && order <= 0
}

// number answers n times 2 to the e.
func number(n int64, e int) api.Dyad {
	size := uint64(n)
	if n < 0 {
		size = -size
	}
	d, ok := dyad.Make(n < 0, []uint64{size}, e)
	if !ok {
		panic("no plain number")
	}
	return d
}

// above answers what lies 2 to the e above d.
func above(d api.Dyad, e int) api.Dyad {
	sum, ok := dyad.Sum(d, number(1, e))
	if !ok {
		panic("no plain sum")
	}
	return sum
}

func point(d api.Dyad) api.Span {
	return api.Span{Lo: d, Hi: d}
}

func between(low, high api.Dyad) api.Span {
	return api.Span{Lo: low, Hi: high}
}

func negative(d api.Dyad) api.Dyad {
	d.Neg = !d.Neg && len(d.M) > 0
	return d
}

func sameDyad(a, b api.Dyad) bool {
	return a.Neg == b.Neg && a.E == b.E && slices.Equal(a.M, b.M)
}

func same(a, b api.Span) bool {
	return sameDyad(a.Lo, b.Lo) && sameDyad(a.Hi, b.Hi)
}

func isZero(a api.Span) bool {
	return same(a, api.Span{})
}

// copied answers a span in memory of its own.
func copied(a api.Span) api.Span {
	a.Lo.M = slices.Clone(a.Lo.M)
	a.Hi.M = slices.Clone(a.Hi.M)
	return a
}

// source is a source of numbers that is the same in each run.
type source struct{ state uint64 }

func (s *source) next() uint64 {
	s.state += 0x9E3779B97F4A7C15
	x := s.state
	x = (x ^ x>>30) * 0xBF58476D1CE4E5B9
	x = (x ^ x>>27) * 0x94D049BB133111EB
	return x ^ x>>31
}

func (s *source) below(n int) int {
	return int(s.next() % uint64(n))
}

// number answers one of up to so many words whose top is told, of either sign.
func (s *source) number(words, top int) api.Dyad {
	m := make([]uint64, 1+s.below(words))
	for i := range m {
		m[i] = s.next()
	}
	m[0] |= 1
	m[len(m)-1] |= 1 << 63
	d, ok := dyad.Make(s.next()%2 == 0, m, top-64*len(m))
	if !ok {
		panic("no plain number")
	}
	return d
}

// span answers one of two numbers, both with tops up to the one told.
func (s *source) span(words, top int) api.Span {
	a, b := s.number(words, top-s.below(40)), s.number(words, top-s.below(40))
	if order, _ := dyad.Cmp(a, b); order > 0 {
		a, b = b, a
	}
	return between(a, b)
}

// show tells a number by its first digits.
func show(d api.Dyad) string {
	return toFloat(d).Text('p', 20)
}

func showSpan(a api.Span) string {
	return show(a.Lo) + " to " + show(a.Hi)
}

// answered is the call of a good calc that stays good, and whose answer is
// right.
func answered(t *testing.T, f function, p int, a api.Span) api.Span {
	t.Helper()
	c := calc(p)
	got := f.call(c, a)
	if c.Bad || c.P != p || !isRight(got) {
		t.Fatalf("%s of %s with %d bits: %v, bad %v, %d bits later", f.name, showSpan(a), p, got, c.Bad, c.P)
	}
	return got
}
