package cmath_test

import (
	"math"
	"math/big"

	"volvelle/api"
)

// The functions otherwise than in the layers: by powers of e and logarithms of
// complex numbers, worked by the library's floats with so many bits that what
// differences lose doesn't matter. Logarithms are mended by what they came of;
// the sides of cuts come of the signs of zeros.

// far works so many bits.
type far uint

// spot: a complex number.
type spot struct{ re, im *big.Float }

func (w far) num(n int64) *big.Float {
	return new(big.Float).SetPrec(uint(w)).SetInt64(n)
}

func (w far) add(a, b *big.Float) *big.Float {
	return new(big.Float).SetPrec(uint(w)).Add(a, b)
}

func (w far) sub(a, b *big.Float) *big.Float {
	return new(big.Float).SetPrec(uint(w)).Sub(a, b)
}

func (w far) mul(a, b *big.Float) *big.Float {
	return new(big.Float).SetPrec(uint(w)).Mul(a, b)
}

func (w far) quo(a, b *big.Float) *big.Float {
	return new(big.Float).SetPrec(uint(w)).Quo(a, b)
}

func (w far) neg(a *big.Float) *big.Float {
	return new(big.Float).SetPrec(uint(w)).Neg(a)
}

func (w far) half(a *big.Float) *big.Float {
	return new(big.Float).SetPrec(uint(w)).SetMantExp(a, -1)
}

func (w far) rootOf(a *big.Float) *big.Float {
	return new(big.Float).SetPrec(uint(w)).Sqrt(a)
}

// like answers a number of a's size with the sign of b, or of b's zero.
func (w far) like(a, b *big.Float) *big.Float {
	size := new(big.Float).SetPrec(uint(w)).Abs(a)
	if b.Signbit() {
		size.Neg(size)
	}
	return size
}

func (w far) plus(a, b spot) spot {
	return spot{w.add(a.re, b.re), w.add(a.im, b.im)}
}

func (w far) minus(a, b spot) spot {
	return spot{w.sub(a.re, b.re), w.sub(a.im, b.im)}
}

func (w far) times(a, b spot) spot {
	return spot{
		w.sub(w.mul(a.re, b.re), w.mul(a.im, b.im)),
		w.add(w.mul(a.re, b.im), w.mul(a.im, b.re)),
	}
}

func (w far) square(a spot) *big.Float {
	return w.add(w.mul(a.re, a.re), w.mul(a.im, a.im))
}

func (w far) over(a, b spot) spot {
	by := w.square(b)
	c := w.times(a, w.conjugate(b))
	return spot{w.quo(c.re, by), w.quo(c.im, by)}
}

func (w far) conjugate(a spot) spot {
	return spot{a.re, w.neg(a.im)}
}

func (w far) scaled(a spot, k int) spot {
	re, im := new(big.Float).SetPrec(uint(w)), new(big.Float).SetPrec(uint(w))
	return spot{re.SetMantExp(a.re, k), im.SetMantExp(a.im, k)}
}

// turn answers i times a number, back the number over i.
func (w far) turn(a spot) spot {
	return spot{w.neg(a.im), a.re}
}

func (w far) back(a spot) spot {
	return spot{a.im, w.neg(a.re)}
}

// exponent answers the least n, or one more, with a below 2^n in size.
func exponent(a spot) int {
	switch {
	case a.re.Sign() == 0:
		return a.im.MantExp(nil)
	case a.im.Sign() == 0:
		return a.re.MantExp(nil)
	}
	return max(a.re.MantExp(nil), a.im.MantExp(nil)) + 1
}

func isNothing(a spot) bool {
	return a.re.Sign() == 0 && a.im.Sign() == 0
}

// exp answers a power of e: the series of a number that is halved so often, then
// squared as often.
func (w far) exp(z spot) spot {
	halvings := max(exponent(z), 0) + int(math.Sqrt(float64(w)))
	in := w + 64 + far(halvings)
	rest := in.scaled(z, -halvings)
	sum := spot{in.num(1), in.num(0)}
	term := sum
	for k := int64(1); ; k++ {
		term = in.times(term, rest)
		by := far(64).num(k)
		term = spot{in.quo(term.re, by), in.quo(term.im, by)}
		if isNothing(term) || exponent(term) < -int(in) {
			break
		}
		sum = in.plus(sum, term)
	}
	for range halvings {
		sum = in.times(sum, sum)
	}
	return sum
}

// log answers the logarithm of a number that isn't 0. With e to a guess as p, it
// is the guess and twice what the number less p is over both together, but for
// the cube of that.
func (w far) log(z spot) spot {
	twos := exponent(z)
	small := far(64).scaled(z, -twos)
	re, _ := small.re.Float64()
	im, _ := small.im.Float64()
	size := math.Log(math.Hypot(re, im)) + float64(twos)*math.Ln2
	guess := spot{big.NewFloat(size), big.NewFloat(math.Atan2(im, re))}
	for sure := 40; sure < int(w)+64; {
		sure = min(3*sure-8, int(w)+64)
		in := far(sure + 64)
		power := in.exp(guess)
		miss := in.over(in.minus(z, power), in.plus(z, power))
		guess = in.plus(guess, in.scaled(miss, 1))
	}
	if z.im.Sign() == 0 && z.re.Sign() > 0 {
		guess.im = z.im
	}
	return guess
}

func (w far) logOf(a *big.Float) *big.Float {
	return w.log(spot{a, w.num(0)}).re
}

// angle answers that of the point (x, y); of the middle that of the point on the
// axis of x on the side of its zero.
func (w far) angle(y, x *big.Float) *big.Float {
	if x.Sign() == 0 && y.Sign() == 0 {
		x = w.like(w.num(1), x)
	}
	return w.log(spot{x, y}).im
}

// root answers the one whose first component isn't below 0.
func (w far) root(z spot) spot {
	twice := w.add(w.rootOf(w.square(z)), new(big.Float).Abs(z.re))
	greater := w.rootOf(w.half(twice))
	if greater.Sign() == 0 {
		return spot{greater, z.im}
	}
	lesser := w.quo(w.half(z.im), greater)
	if z.re.Signbit() {
		return spot{lesser.Abs(lesser), w.like(greater, z.im)}
	}
	return spot{greater, lesser}
}

func (w far) arsinh(a *big.Float) *big.Float {
	size := new(big.Float).Abs(a)
	more := w.rootOf(w.add(w.mul(a, a), w.num(1)))
	return w.like(w.logOf(w.add(size, more)), a)
}

// besides answers 1 more than a number, and 1 less the number.
func (w far) besides(z spot) (more, less spot) {
	return spot{w.add(w.num(1), z.re), z.im}, spot{w.sub(w.num(1), z.re), w.neg(z.im)}
}

func (w far) asin(z spot) spot {
	more, less := w.besides(z)
	up, down := w.root(more), w.root(less)
	re := w.angle(z.re, w.times(up, down).re)
	return spot{re, w.arsinh(w.times(w.conjugate(down), up).im)}
}

func (w far) acos(z spot) spot {
	more, less := w.besides(z)
	up, down := w.root(more), w.root(less)
	re := w.scaled(spot{w.angle(down.re, up.re), w.num(0)}, 1).re
	return spot{re, w.arsinh(w.times(w.conjugate(up), down).im)}
}

func (w far) acosh(z spot) spot {
	more, less := w.besides(z)
	up, down := w.root(more), w.root(spot{w.neg(less.re), z.im})
	im := w.scaled(spot{w.num(0), w.angle(down.im, up.re)}, 1).im
	return spot{w.arsinh(w.times(w.conjugate(down), up).re), im}
}

func (w far) atanh(z spot) spot {
	more, less := w.besides(z)
	return w.scaled(w.minus(w.log(more), w.log(less)), -1)
}

// tanh is worked so that its second component isn't lost beside the first, where
// that is next to 1.
func (w far) tanh(z spot) spot {
	across := w.exp(spot{z.re, w.num(0)})
	_, sinh, cosh := w.waves(across)
	around := w.exp(spot{w.num(0), z.im})
	_, _, c := w.waves(w.exp(z))
	by := w.square(c)
	return spot{w.quo(w.mul(sinh.re, cosh.re), by), w.quo(w.mul(around.im, around.re), by)}
}

// waves answers a power of e, and half of it less, and more, one over it.
func (w far) waves(power spot) (same, sinh, cosh spot) {
	other := w.over(spot{w.num(1), w.num(0)}, power)
	return power, w.scaled(w.minus(power, other), -1), w.scaled(w.plus(power, other), -1)
}

// function answers one that isn't made of sums, products, quotients and roots
// alone.
func (w far) function(tag int, z spot) spot {
	switch tag {
	case api.Arg:
		return spot{w.angle(z.im, z.re), w.num(0)}
	case api.Exp:
		return w.exp(z)
	case api.Log:
		return w.log(z)
	case api.Sin:
		_, sinh, _ := w.waves(w.exp(w.turn(z)))
		return w.back(sinh)
	case api.Cos:
		_, _, cosh := w.waves(w.exp(w.turn(z)))
		return cosh
	case api.Tan:
		return w.back(w.tanh(w.turn(z)))
	case api.Sinh:
		_, sinh, _ := w.waves(w.exp(z))
		return sinh
	case api.Cosh:
		_, _, cosh := w.waves(w.exp(z))
		return cosh
	case api.Tanh:
		return w.tanh(z)
	}
	return w.inverse(tag, z)
}

func (w far) inverse(tag int, z spot) spot {
	switch tag {
	case api.Asin:
		return w.asin(z)
	case api.Acos:
		return w.acos(z)
	case api.Atan:
		return w.back(w.atanh(w.turn(z)))
	case api.Asinh:
		return w.back(w.asin(w.turn(z)))
	case api.Acosh:
		return w.acosh(z)
	}
	return w.atanh(z)
}

// transcendental answers the tags of these functions.
func transcendental() []int {
	var l []int
	for tag := range 21 {
		if !isExact(tag) && tag != api.Conj && tag != api.Proj {
			l = append(l, tag)
		}
	}
	return l
}

// ends: numbers that a component lies between.
type ends struct{ low, high *big.Float }

// about answers those next to a number that is told but for 2^-sure of its size.
func about(a *big.Float, sure int) ends {
	in := far(a.Prec()) + 64
	size := new(big.Float).Abs(a)
	size.SetMantExp(size, -sure)
	return ends{in.sub(a, size), in.add(a, size)}
}

// mayLie tells whether the component may lie from one word's number to another's.
func (e ends) mayLie(low, high uint64) bool {
	isAbove := low == infinity|sign || isNumber(low) && e.high.Cmp(numeral(low)) >= 0
	return isAbove && (high == infinity || isNumber(high) && e.low.Cmp(numeral(high)) <= 0)
}

// exactly holds a number against others.
func exactly(a *big.Float) against {
	return func(m *big.Float) int { return a.Cmp(m) }
}

// isOrdinary tells whether a word's number is neither near 0, but 0, nor far away.
func isOrdinary(b uint64) bool {
	return isZero(b) || b&^sign >= word(0x1p-62) && b&^sign < word(0x1p62)
}

// reference tells both components, with bits enough for the words: what is lost
// is less than half of these.
func reference(tag int, z api.Four) [2]ends {
	w := far(700)
	if !isOrdinary(z[0]) || !isOrdinary(z[1]) {
		w = 7000
	}
	a := w.function(tag, spot{numeral(z[0]), numeral(z[1])})
	return [2]ends{about(a.re, int(w)/2), about(a.im, int(w)/2)}
}
