package circ_test

import (
	"math/big"
	"slices"
	"sync"
	"testing"

	"volvelle/api"
	"volvelle/circ"
	"volvelle/dyad"
)

// A function is a call of the layer, with what tells the tests what it should
// come to.
type function struct {
	name string
	call func(c *circ.Calc, a api.Span) api.Span
	// quarters is how many quarters of a turn a number is ahead where the
	// function is its cosine.
	quarters int64
	atZero   int64
}

func sine() function   { return function{"Sin", (*circ.Calc).Sin, 3, 0} }
func cosine() function { return function{"Cos", (*circ.Calc).Cos, 0, 1} }

func functions() []function {
	return []function{sine(), cosine()}
}

func calc(p int) *circ.Calc {
	c := &circ.Calc{}
	c.P = p
	return c
}

// float answers an empty one that keeps so many bits.
func float(bits uint) *big.Float {
	return new(big.Float).SetPrec(bits)
}

const piBits = 1 << 17

// halfPi answers half of pi, with piBits of bits and with fewer, so that few are
// copied where few are asked for: by 16 times the arctangent of 1/5 less 4 times
// that of 1/239.
var halfPi = sync.OnceValue(func() []*big.Float {
	sum := new(big.Int)
	for _, part := range []struct{ times, n int64 }{{16, 5}, {-4, 239}} {
		power := new(big.Int).Lsh(big.NewInt(part.times), piBits)
		power.Quo(power, big.NewInt(part.n))
		term := new(big.Int)
		for k := int64(1); power.Sign() != 0; k += 2 {
			sum.Add(sum, term.Quo(power, big.NewInt(k)))
			power.Quo(power, big.NewInt(-part.n*part.n))
		}
	}
	x := float(piBits).SetInt(sum)
	x.SetMantExp(x, -piBits-1)
	var l []*big.Float
	for bits := uint(256); bits <= piBits; bits *= 2 {
		l = append(l, float(bits).Set(x))
	}
	return l
})

// quarter answers half of pi with so many bits at least.
func quarter(bits uint) *big.Float {
	for _, x := range halfPi() {
		if x.Prec() >= bits {
			return x
		}
	}
	panic("too few bits of pi")
}

// rest answers what x is beyond the quarter of a turn that is nearest to it, and
// how many quarters that is: x is made small by pi, otherwise than in the layer.
func rest(x *big.Float, bits uint) (*big.Float, int64) {
	half := float(bits + 64).Set(quarter(bits + 64))
	quotient := float(64).Quo(x, half)
	quotient.Add(quotient, float(8).SetFloat64(0.5*float64(x.Sign())))
	times, _ := quotient.Int64()
	if times == 0 {
		return x, 0
	}
	less := float(bits+64).Mul(half, float(64).SetInt64(times))
	return float(bits+64).Sub(x, less), times
}

// terms answers the sum of all r^n over n! with every other sign, of every other
// n from odd on.
func terms(r *big.Float, bits uint, odd int64) *big.Float {
	square := float(bits).Mul(r, r)
	square.Neg(square)
	term := float(bits).SetInt64(1)
	if odd == 1 {
		term.Set(r)
	}
	sum := float(bits).Set(term)
	for n := odd + 2; term.Sign() != 0 && term.MantExp(nil) > -int(bits); n += 2 {
		term.Mul(term, square)
		term.Quo(term, float(64).SetInt64(n*(n-1)))
		sum.Add(sum, term)
	}
	return sum
}

// bounds answers bounds of what the function comes to at x, told so finely that
// the cube is seen of what x is beyond a quarter of a turn, and 200 bits beyond
// p.
func (f function) bounds(x api.Dyad, p int) (low, high *big.Float) {
	if len(x.M) == 0 {
		return float(64).SetInt64(f.atZero), float(64).SetInt64(f.atZero)
	}
	exact := toFloat(x)
	few, _ := rest(exact, uint(p)+64*uint(len(x.M))+100)
	bits := uint(p + 250 + 3*max(-few.MantExp(nil), 0))
	r, times := rest(exact, bits)
	times = (times + f.quarters) & 3
	value := terms(r, bits, times&1)
	if times == 1 || times == 2 {
		value.Neg(value)
	}
	unit := float(1).SetMantExp(float(1).SetInt64(1), 10-int(bits))
	return float(bits).Sub(value, unit), float(bits).Add(value, unit)
}

// toFloat answers a plain dyad exactly.
func toFloat(d api.Dyad) *big.Float {
	n := new(big.Int)
	for _, x := range slices.Backward(d.M) {
		n.Or(n.Lsh(n, 64), new(big.Int).SetUint64(x))
	}
	if d.Neg {
		n.Neg(n)
	}
	x := float(max(uint(n.BitLen()), 1)).SetInt(n)
	return x.SetMantExp(x, d.E)
}

// holds tells whether the span has all from low to high.
func holds(a api.Span, low, high *big.Float) bool {
	return toFloat(a.Lo).Cmp(low) <= 0 && toFloat(a.Hi).Cmp(high) >= 0
}

// width answers how wide a right span is, not below that.
func width(a api.Span) *big.Float {
	return float(1<<15).SetMode(big.ToPositiveInf).Sub(toFloat(a.Hi), toFloat(a.Lo))
}

// power answers 2 to the e.
func power(e int) *big.Float {
	return float(1).SetMantExp(float(1).SetInt64(1), e)
}

// isNarrow tells whether a right span is 2^(4 - p) wide at most.
func isNarrow(a api.Span, p int) bool {
	return width(a).Cmp(power(4-p)) <= 0
}

// isRelativelyNarrow tells whether it is 2^(4 - p) times its greater end's size
// wide at most.
func isRelativelyNarrow(a api.Span, p int) bool {
	wide := width(a)
	wide.SetMantExp(wide, p-4)
	low, high := toFloat(a.Lo), toFloat(a.Hi)
	return wide.Cmp(low.Abs(low)) <= 0 || wide.Cmp(high.Abs(high)) <= 0
}

// isSmall tells whether a number is less than 1/2 in size.
func isSmall(x api.Dyad) bool {
	return toFloat(size(x)).Cmp(power(-1)) < 0
}

// isRight tells whether a span is, and lies from -1 to 1.
func isRight(a api.Span) bool {
	order, ok := dyad.Cmp(a.Lo, a.Hi)
	low, okLow := dyad.Cmp(number(-1, 0), a.Lo)
	high, okHigh := dyad.Cmp(a.Hi, number(1, 0))
	return ok && okLow && okHigh && order <= 0 && low <= 0 && high <= 0
}

// meet tells whether two spans have a number in common.
func meet(a, b api.Span) bool {
	x, okX := dyad.Cmp(a.Lo, b.Hi)
	y, okY := dyad.Cmp(b.Lo, a.Hi)
	return okX && okY && x <= 0 && y <= 0
}

// number answers n times 2 to the e.
func number(n int64, e int) api.Dyad {
	size := uint64(n)
	if n < 0 {
		size = -size
	}
	d, ok := dyad.Make(n < 0, []uint64{size}, e)
	if !ok {
		panic("no plain number")
	}
	return d
}

// above answers what lies 2 to the e above d.
func above(d api.Dyad, e int) api.Dyad {
	return sum(d, number(1, e))
}

// below answers what lies 2 to the e below d.
func below(d api.Dyad, e int) api.Dyad {
	return sum(d, number(-1, e))
}

func sum(a, b api.Dyad) api.Dyad {
	d, ok := dyad.Sum(a, b)
	if !ok {
		panic("no plain sum")
	}
	return d
}

func point(d api.Dyad) api.Span {
	return api.Span{Lo: d, Hi: d}
}

func between(low, high api.Dyad) api.Span {
	return api.Span{Lo: low, Hi: high}
}

func negative(d api.Dyad) api.Dyad {
	d.Neg = !d.Neg && len(d.M) > 0
	return d
}

func size(d api.Dyad) api.Dyad {
	d.Neg = false
	return d
}

// most answers the greatest number in reach.
func most() api.Dyad {
	return number(1, 16)
}

// near answers the number of so many bits behind the point that is next to n
// quarters of a turn.
func near(n int64, behind int) api.Dyad {
	x := float(uint(behind+64)).Mul(quarter(uint(behind+64)), float(64).SetInt64(n))
	x.SetMantExp(x, behind)
	whole, _ := x.Add(x, float(2).SetFloat64(0.5*float64(x.Sign()))).Int(nil)
	d, ok := dyad.Make(n < 0, words(whole), -behind)
	if !ok {
		panic("no plain number")
	}
	return d
}

// words answers those of a whole number without its sign.
func words(n *big.Int) []uint64 {
	var l []uint64
	rest := new(big.Int).Abs(n)
	for ; rest.Sign() != 0; rest.Rsh(rest, 64) {
		l = append(l, new(big.Int).And(rest, new(big.Int).SetUint64(1<<64-1)).Uint64())
	}
	return l
}

func sameDyad(a, b api.Dyad) bool {
	return a.Neg == b.Neg && a.E == b.E && slices.Equal(a.M, b.M)
}

func same(a, b api.Span) bool {
	return sameDyad(a.Lo, b.Lo) && sameDyad(a.Hi, b.Hi)
}

func isZero(a api.Span) bool {
	return same(a, api.Span{})
}

// copied answers a span in memory of its own.
func copied(a api.Span) api.Span {
	a.Lo.M = slices.Clone(a.Lo.M)
	a.Hi.M = slices.Clone(a.Hi.M)
	return a
}

// source is a source of numbers that is the same in each run.
type source struct{ state uint64 }

func (s *source) next() uint64 {
	s.state += 0x9E3779B97F4A7C15
	x := s.state
	x = (x ^ x>>30) * 0xBF58476D1CE4E5B9
	x = (x ^ x>>27) * 0x94D049BB133111EB
	return x ^ x>>31
}

func (s *source) below(n int) int {
	return int(s.next() % uint64(n))
}

// number answers one of up to so many words, of either sign, whose top is told.
func (s *source) number(words, top int) api.Dyad {
	m := make([]uint64, 1+s.below(words))
	for i := range m {
		m[i] = s.next()
	}
	m[0] |= 1
	m[len(m)-1] |= 1 << 63
	d, ok := dyad.Make(s.next()%2 == 0, m, top-64*len(m))
	if !ok {
		panic("no plain number")
	}
	return d
}

// anywhere answers one of any size in reach, often next to a quarter of a turn.
func (s *source) anywhere(words int) api.Dyad {
	switch s.below(4) {
	case 0:
		return near(int64(s.below(83443)-41721), 64+s.below(200))
	case 1:
		return s.number(words, 3-s.below(6))
	case 2:
		return s.number(words, -s.below(200))
	}
	return s.number(words, 16-s.below(14))
}

// ordered answers the span of two numbers.
func ordered(a, b api.Dyad) api.Span {
	if order, _ := dyad.Cmp(a, b); order > 0 {
		a, b = b, a
	}
	return between(a, b)
}

// span answers one of two numbers that lie close to each other, or anywhere.
func (s *source) span(words int) api.Span {
	a := s.anywhere(words)
	b := s.anywhere(words)
	if s.below(3) > 0 {
		b = sum(a, s.number(words, 4-s.below(40)))
	}
	if order, _ := dyad.Cmp(size(b), most()); order > 0 {
		b = most()
	}
	return ordered(a, b)
}

// show tells a number by its first digits and its last ones.
func show(d api.Dyad) string {
	text := toFloat(d).Text('p', 0)
	if len(text) > 80 {
		text = text[:40] + ".." + text[len(text)-38:]
	}
	return text
}

func showSpan(a api.Span) string {
	return show(a.Lo) + " to " + show(a.Hi)
}

// answered is the call of a good calc that stays good, and whose answer is
// right.
func answered(t *testing.T, f function, p int, a api.Span) api.Span {
	t.Helper()
	c := calc(p)
	got := f.call(c, a)
	if c.Bad || c.P != p || !isRight(got) {
		t.Fatalf("%s of %s with %d bits: %v, bad %v, %d bits later", f.name, showSpan(a), p, got, c.Bad, c.P)
	}
	return got
}
