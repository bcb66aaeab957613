package arc_test

import (
	"math"
	"math/big"
	"slices"
	"sync"
	"testing"

	"volvelle/api"
	"volvelle/arc"
	"volvelle/dyad"
)

func calc(p int) *arc.Calc {
	c := &arc.Calc{}
	c.P = p
	return c
}

// float answers an empty one that keeps so many bits.
func float(bits uint) *big.Float {
	return new(big.Float).SetPrec(bits)
}

const piBits = 1 << 17

// halfPi answers half of pi, with piBits of bits and with fewer, so that few are
// copied where few are asked for: by 16 times the arctangent of 1/5 less 4 times
// that of 1/239.
var halfPi = sync.OnceValue(func() []*big.Float {
	sum := new(big.Int)
	for _, part := range []struct{ times, n int64 }{{16, 5}, {-4, 239}} {
		power := new(big.Int).Lsh(big.NewInt(part.times), piBits)
		power.Quo(power, big.NewInt(part.n))
		term := new(big.Int)
		for k := int64(1); power.Sign() != 0; k += 2 {
			sum.Add(sum, term.Quo(power, big.NewInt(k)))
			power.Quo(power, big.NewInt(-part.n*part.n))
		}
	}
	x := float(piBits).SetInt(sum)
	x.SetMantExp(x, -piBits-1)
	var l []*big.Float
	for bits := uint(256); bits <= piBits; bits *= 2 {
		l = append(l, float(bits).Set(x))
	}
	return l
})

// quarter answers half of pi, a quarter of a turn, with so many bits at least.
func quarter(bits uint) *big.Float {
	for _, x := range halfPi() {
		if x.Prec() >= bits {
			return x
		}
	}
	panic("too few bits of pi")
}

// terms answers the sum of all r^n over n! with every other sign, of every other
// n from odd on.
func terms(r *big.Float, bits uint, odd int64) *big.Float {
	square := float(bits).Mul(r, r)
	square.Neg(square)
	term := float(bits).SetInt64(1)
	if odd == 1 {
		term.Set(r)
	}
	sum := float(bits).Set(term)
	for n := odd + 2; term.Sign() != 0 && term.MantExp(nil) > sum.MantExp(nil)-int(bits); n += 2 {
		term.Mul(term, square)
		term.Quo(term, float(64).SetInt64(n*(n-1)))
		sum.Add(sum, term)
	}
	return sum
}

// sineAndCosine answers these of an angle from -pi to pi, made small by quarters
// of a turn.
func sineAndCosine(x *big.Float, bits uint) (sin, cos *big.Float) {
	size, _ := x.Float64()
	times := int64(math.Round(size / (math.Pi / 2)))
	r := float(bits).Set(x)
	if times != 0 {
		r.Sub(r, float(bits).Mul(quarter(bits), float(64).SetInt64(times)))
	}
	sin, cos = terms(r, bits, 1), terms(r, bits, 0)
	for range times & 3 {
		sin, cos = cos, sin.Neg(sin)
	}
	return sin, cos
}

// firstGuess answers an angle near that of the point (x, y), relatively by some
// 45 bits.
func firstGuess(y, x *big.Float) *big.Float {
	if x.Sign() == 0 {
		return float(64).SetFloat64(math.Copysign(math.Pi/2, float64(y.Sign())))
	}
	high := max(y.MantExp(nil), x.MantExp(nil))
	if x.Sign() > 0 && x.MantExp(nil)-y.MantExp(nil) > 60 {
		return float(64).Quo(y, x)
	}
	up, _ := float(64).SetMantExp(y, -high).Float64()
	across, _ := float(64).SetMantExp(x, -high).Float64()
	return float(64).SetFloat64(math.Atan2(up, across))
}

// bounds answers bounds of the angle of the point (x, y), told so finely that the
// cube of a little angle is seen, and 200 bits beyond p. A guess is mended by the
// sine and the cosine of what it lacks: otherwise than in the layer.
func bounds(y, x api.Dyad, p int) (low, high *big.Float) {
	if isNought(y) && !x.Neg {
		return float(64), float(64)
	}
	up, across := toFloat(y), toFloat(x)
	angle := firstGuess(up, across)
	bits := p + 250 + 2*max(-angle.MantExp(nil), 0)
	for sure := 45; sure < bits; sure *= 5 {
		work := uint(min(5*sure, bits) + 64)
		angle = float(work).Set(angle)
		sin, cos := sineAndCosine(angle, work)
		off := float(work).Sub(float(work).Mul(up, cos), float(work).Mul(across, sin))
		along := float(work).Add(float(work).Mul(across, cos), float(work).Mul(up, sin))
		lacks := off.Quo(off, along)
		cube := float(work).Mul(lacks, lacks)
		cube.Mul(cube, lacks)
		angle.Add(angle, lacks)
		angle.Sub(angle, cube.Quo(cube, float(64).SetInt64(3)))
	}
	unit := power(angle.MantExp(nil) - bits)
	work := uint(bits + 64)
	return float(work).Sub(angle, unit), float(work).Add(angle, unit)
}

// toFloat answers a plain dyad exactly.
func toFloat(d api.Dyad) *big.Float {
	n := new(big.Int)
	for _, x := range slices.Backward(d.M) {
		n.Or(n.Lsh(n, 64), new(big.Int).SetUint64(x))
	}
	if d.Neg {
		n.Neg(n)
	}
	x := float(max(uint(n.BitLen()), 1)).SetInt(n)
	return x.SetMantExp(x, d.E)
}

// holds tells whether the span has all from low to high.
func holds(a api.Span, low, high *big.Float) bool {
	return toFloat(a.Lo).Cmp(low) <= 0 && toFloat(a.Hi).Cmp(high) >= 0
}

// width answers how wide a right span is, not below that.
func width(a api.Span) *big.Float {
	return float(1<<15).SetMode(big.ToPositiveInf).Sub(toFloat(a.Hi), toFloat(a.Lo))
}

// power answers 2 to the e.
func power(e int) *big.Float {
	return float(1).SetMantExp(float(1).SetInt64(1), e)
}

// isWithin tells whether a right span is 2^(-bits) times its greater end's size
// wide at most.
func isWithin(a api.Span, bits int) bool {
	wide := width(a)
	wide.SetMantExp(wide, bits)
	low, high := toFloat(a.Lo), toFloat(a.Hi)
	return wide.Cmp(low.Abs(low)) <= 0 || wide.Cmp(high.Abs(high)) <= 0
}

// isNarrow tells whether it is relatively narrow.
func isNarrow(a api.Span, p int) bool {
	return isWithin(a, p-4)
}

func isRight(a api.Span) bool {
	order, ok := dyad.Cmp(a.Lo, a.Hi)
	return ok && order <= 0
}

// meet tells whether two spans have a number in common.
func meet(a, b api.Span) bool {
	x, okX := dyad.Cmp(a.Lo, b.Hi)
	y, okY := dyad.Cmp(b.Lo, a.Hi)
	return okX && okY && x <= 0 && y <= 0
}

// number answers n times 2 to the e.
func number(n int64, e int) api.Dyad {
	size := uint64(n)
	if n < 0 {
		size = -size
	}
	d, ok := dyad.Make(n < 0, []uint64{size}, e)
	if !ok {
		panic("no plain number")
	}
	return d
}

// above answers what lies 2 to the e above d.
func above(d api.Dyad, e int) api.Dyad {
	return sum(d, number(1, e))
}

// below answers what lies 2 to the e below d.
func below(d api.Dyad, e int) api.Dyad {
	return sum(d, number(-1, e))
}

func sum(a, b api.Dyad) api.Dyad {
	d, ok := dyad.Sum(a, b)
	if !ok {
		panic("no plain sum")
	}
	return d
}

func point(d api.Dyad) api.Span {
	return api.Span{Lo: d, Hi: d}
}

func between(low, high api.Dyad) api.Span {
	return api.Span{Lo: low, Hi: high}
}

func negative(d api.Dyad) api.Dyad {
	d.Neg = !d.Neg && len(d.M) > 0
	return d
}

// mirrored answers the span on the other side of 0.
func mirrored(a api.Span) api.Span {
	return between(negative(a.Hi), negative(a.Lo))
}

func one() api.Dyad  { return number(1, 0) }
func zero() api.Dyad { return api.Dyad{} }

// least and most answer the ends of what is in reach.
func least() api.Dyad { return number(1, -20000) }
func most() api.Dyad  { return number(1, 20000) }

func isNought(d api.Dyad) bool {
	return len(d.M) == 0
}

func sameDyad(a, b api.Dyad) bool {
	return a.Neg == b.Neg && a.E == b.E && slices.Equal(a.M, b.M)
}

func same(a, b api.Span) bool {
	return sameDyad(a.Lo, b.Lo) && sameDyad(a.Hi, b.Hi)
}

func isZero(a api.Span) bool {
	return same(a, api.Span{})
}

// copied answers a span in memory of its own.
func copied(a api.Span) api.Span {
	a.Lo.M = slices.Clone(a.Lo.M)
	a.Hi.M = slices.Clone(a.Hi.M)
	return a
}

// source is a source of numbers that is the same in each run.
type source struct{ state uint64 }

func (s *source) next() uint64 {
	s.state += 0x9E3779B97F4A7C15
	x := s.state
	x = (x ^ x>>30) * 0xBF58476D1CE4E5B9
	x = (x ^ x>>27) * 0x94D049BB133111EB
	return x ^ x>>31
}

func (s *source) below(n int) int {
	return int(s.next() % uint64(n))
}

// number answers one of up to so many words, of either sign, whose top is told.
func (s *source) number(words, top int) api.Dyad {
	m := make([]uint64, 1+s.below(words))
	for i := range m {
		m[i] = s.next()
	}
	m[0] |= 1
	m[len(m)-1] |= 1 << 63
	d, ok := dyad.Make(s.next()%2 == 0, m, top-64*len(m))
	if !ok {
		panic("no plain number")
	}
	return d
}

// anywhere answers one of any size in reach, often near 1 or -1.
func (s *source) anywhere(words int) api.Dyad {
	switch s.below(8) {
	case 0:
		return sum(number(1-2*int64(s.below(2)), 0), s.number(words, -1-s.below(200)))
	case 1:
		return s.number(words, 20000-s.below(39999))
	case 2, 3:
		return s.number(words, 100-s.below(200))
	}
	return s.number(words, 4-s.below(8))
}

// place answers a point whose parts are like in size, or lie far apart.
func (s *source) place(words int) (y, x api.Dyad) {
	y, x = s.anywhere(words), s.anywhere(words)
	if s.below(3) == 0 {
		y = s.number(words, topOf(x)+3-s.below(6))
	}
	return inReach(y), inReach(x)
}

// inReach answers d, or the nearest number in reach.
func inReach(d api.Dyad) api.Dyad {
	size := d
	size.Neg = false
	if order, _ := dyad.Cmp(size, most()); order > 0 {
		size = most()
	}
	if order, _ := dyad.Cmp(size, least()); order < 0 {
		size = least()
	}
	size.Neg = d.Neg
	return size
}

// topOf answers the least k with a number below 2 to the k in size, of one that
// isn't 0.
func topOf(d api.Dyad) int {
	return toFloat(d).MantExp(nil)
}

// ordered answers the span of two numbers.
func ordered(a, b api.Dyad) api.Span {
	if order, _ := dyad.Cmp(a, b); order > 0 {
		a, b = b, a
	}
	return between(a, b)
}

// span answers one of two numbers that lie close to each other, or anywhere, or of
// which one is 0.
func (s *source) span(words int) api.Span {
	a := s.anywhere(words)
	switch s.below(6) {
	case 0:
		return ordered(a, s.anywhere(words))
	case 1:
		return ordered(a, zero())
	case 2:
		return ordered(a, inReach(sum(a, s.number(words, topOf(a)+3-s.below(6)))))
	}
	return ordered(a, inReach(sum(a, s.number(words, topOf(a)-s.below(60)))))
}

// show tells a number by its first digits and its last ones.
func show(d api.Dyad) string {
	text := toFloat(d).Text('p', 0)
	if len(text) > 80 {
		text = text[:40] + ".." + text[len(text)-38:]
	}
	return text
}

func showSpan(a api.Span) string {
	return show(a.Lo) + " to " + show(a.Hi)
}

// arctangents and angles are the calls of a good calc that stays good, and whose
// answers are right.

func arctangents(t *testing.T, p int, a api.Span) api.Span {
	t.Helper()
	c := calc(p)
	got := c.Atan(a)
	if c.Bad || c.P != p || !isRight(got) {
		t.Fatalf("Atan of %s with %d bits: %v, bad %v, %d bits later", showSpan(a), p, got, c.Bad, c.P)
	}
	return got
}

func angles(t *testing.T, p int, y, x api.Span) api.Span {
	t.Helper()
	c := calc(p)
	got := c.Atan2(y, x)
	if c.Bad || c.P != p || !isRight(got) {
		t.Fatalf("Atan2 of %s and %s with %d bits: %v, bad %v, %d bits later", showSpan(y), showSpan(x), p, got, c.Bad, c.P)
	}
	return got
}
