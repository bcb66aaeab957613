package part_test

import (
	"math"
	"math/big"
	"sync"
	"testing"

	"volvelle/api"
)

// The expressions of the chapter's table, worked as they stand there by the
// library's floats, with so many bits that what their differences lose doesn't
// matter; and the real functions in them, worked otherwise than in the layers:
// logarithms and angles are mended by what they came of.

// far works so many bits.
type far uint

func (w far) num(n int64) *big.Float {
	return new(big.Float).SetPrec(uint(w)).SetInt64(n)
}

func (w far) of(x *big.Float) *big.Float {
	return new(big.Float).SetPrec(uint(w)).Set(x)
}

func (w far) add(a, b *big.Float) *big.Float {
	return new(big.Float).SetPrec(uint(w)).Add(a, b)
}

func (w far) sub(a, b *big.Float) *big.Float {
	return new(big.Float).SetPrec(uint(w)).Sub(a, b)
}

func (w far) mul(a, b *big.Float) *big.Float {
	return new(big.Float).SetPrec(uint(w)).Mul(a, b)
}

func (w far) quo(a, b *big.Float) *big.Float {
	return new(big.Float).SetPrec(uint(w)).Quo(a, b)
}

// root answers one that is exact where it has few bits, which the library's own
// needn't be in its last bits.
func (w far) root(a *big.Float) *big.Float {
	return w.of(new(big.Float).SetPrec(uint(w) + 64).Sqrt(a))
}

func (w far) scale(a *big.Float, k int) *big.Float {
	if a.Sign() == 0 {
		return w.of(a)
	}
	return new(big.Float).SetPrec(uint(w)).SetMantExp(a, k)
}

func (w far) neg(a *big.Float) *big.Float {
	return new(big.Float).SetPrec(uint(w)).Neg(a)
}

// like answers a number of a's size with the sign of b, or of b's zero.
func (w far) like(a, b *big.Float) *big.Float {
	if b.Signbit() {
		return w.neg(a)
	}
	return a
}

const constantBits = 1 << 14

// series answers times n times the sum of all 1 over (2 k + 1) n^(2 k + 1), with
// every other sign if n is below 0.
func series(times, n int64) *big.Int {
	square := big.NewInt(n * n)
	if n < 0 {
		n, square = -n, big.NewInt(-n*n)
	}
	power := new(big.Int).Lsh(big.NewInt(times), constantBits)
	power.Quo(power, big.NewInt(n))
	sum, term := new(big.Int), new(big.Int)
	for k := int64(1); power.Sign() != 0; k += 2 {
		sum.Add(sum, term.Quo(power, big.NewInt(k)))
		power.Quo(power, square)
	}
	return sum
}

// constant answers what a series came to.
func constant(n *big.Int) *big.Float {
	x := new(big.Float).SetPrec(constantBits).SetInt(n)
	return x.SetMantExp(x, -constantBits)
}

var halfPi = sync.OnceValue(func() *big.Float {
	return constant(new(big.Int).Sub(series(8, -5), series(2, -239)))
})

var logOfTwo = sync.OnceValue(func() *big.Float {
	return constant(series(2, 3))
})

func (w far) pi() *big.Float {
	return w.scale(w.of(halfPi()), 1)
}

// terms answers the sum of the terms whose first one is told, each of them the
// one ahead times by, over the next two numbers from n on, or the next one.
func (w far) terms(first, by *big.Float, n, step int64) *big.Float {
	term, sum := w.of(first), w.of(first)
	for ; term.Sign() != 0 && term.MantExp(nil) > sum.MantExp(nil)-int(w); n += step {
		term = w.mul(term, by)
		for k := range step {
			term = w.quo(term, far(64).num(n+k))
		}
		sum = w.add(sum, term)
	}
	return sum
}

func (w far) exp(x *big.Float) *big.Float {
	size, _ := x.Float64()
	twos := int64(math.Round(size / math.Ln2))
	halvings := int(math.Sqrt(float64(w)))
	in := w + 64 + far(halvings)
	rest := in.scale(in.sub(x, in.mul(in.of(logOfTwo()), in.num(twos))), -halvings)
	power := in.terms(in.num(1), rest, 1, 1)
	for range halvings {
		power = in.mul(power, power)
	}
	return w.scale(power, int(twos))
}

func (w far) sinh(x *big.Float) *big.Float {
	in := w + 2500
	return w.of(in.scale(in.sub(in.exp(x), in.exp(in.neg(x))), -1))
}

func (w far) cosh(x *big.Float) *big.Float {
	return w.scale(w.add(w.exp(x), w.exp(w.neg(x))), -1)
}

// log answers the logarithm of a number above 0: twice what its power misses of
// the number, over both together, is the logarithm's miss, but for its cube.
func (w far) log(x *big.Float) *big.Float {
	part := new(big.Float)
	exponent := x.MantExp(part)
	size, _ := part.Float64()
	y := far(64).of(big.NewFloat(math.Log(size) + float64(exponent)*math.Ln2))
	for sure := far(36); sure < w+64; sure *= 2 {
		in := min(2*sure, w+64) + 64
		power := in.exp(y)
		miss := in.quo(in.sub(x, power), in.add(x, power))
		y = in.add(y, in.scale(miss, 1))
	}
	return w.of(y)
}

// sineAndCosine answers these of a number, made small by quarters of a turn.
func (w far) sineAndCosine(x *big.Float) (sin, cos *big.Float) {
	size, _ := x.Float64()
	times := int64(math.Round(size / (math.Pi / 2)))
	in := w + 64
	rest := in.of(x)
	if times != 0 {
		rest = in.sub(rest, in.mul(in.of(halfPi()), in.num(times)))
	}
	square := in.neg(in.mul(rest, rest))
	sin, cos = in.terms(rest, square, 2, 2), in.terms(in.num(1), square, 1, 2)
	for range times & 3 {
		sin, cos = cos, in.neg(sin)
	}
	return sin, cos
}

func (w far) sin(x *big.Float) *big.Float {
	sin, _ := w.sineAndCosine(x)
	return sin
}

func (w far) cos(x *big.Float) *big.Float {
	_, cos := w.sineAndCosine(x)
	return cos
}

// guess answers an angle near that of the point (x, y), where y isn't 0.
func guess(y, x *big.Float) *big.Float {
	if x.Sign() == 0 {
		return big.NewFloat(math.Copysign(math.Pi/2, float64(y.Sign())))
	}
	high := max(y.MantExp(nil), x.MantExp(nil))
	if x.Sign() > 0 && x.MantExp(nil)-y.MantExp(nil) > 60 {
		return far(64).quo(y, x)
	}
	up, _ := far(64).scale(y, -high).Float64()
	across, _ := far(64).scale(x, -high).Float64()
	return big.NewFloat(math.Atan2(up, across))
}

// angle answers that of the point (x, y), whose zeros have sides: a guess is
// mended by the sine and the cosine of what it lacks.
func (w far) angle(x, y *big.Float) *big.Float {
	if y.Sign() == 0 {
		if !x.Signbit() {
			return w.num(0)
		}
		return w.like(w.pi(), y)
	}
	angle := guess(y, x)
	// A lack is told next to the angle's own size; it is mended but for its cube.
	for sure := far(40); sure < w+64; sure *= 2 {
		in := min(2*sure, w+64) + 64
		sin, cos := in.sineAndCosine(angle)
		off := in.sub(in.mul(y, cos), in.mul(x, sin))
		along := in.add(in.mul(x, cos), in.mul(y, sin))
		angle = in.add(angle, in.quo(off, along))
	}
	return w.of(angle)
}

func (w far) squares(a, b *big.Float) *big.Float {
	return w.add(w.mul(a, a), w.mul(b, b))
}

func (w far) distance(a, b *big.Float) *big.Float {
	return w.root(w.squares(a, b))
}

// a answers half of the sum of both distances.
func (w far) a(x, y *big.Float) *big.Float {
	right, left := w.distance(w.add(x, w.num(1)), y), w.distance(w.sub(x, w.num(1)), y)
	return w.scale(w.add(right, left), -1)
}

func (w far) arcosh(a *big.Float) *big.Float {
	return w.log(w.add(a, w.root(w.sub(w.mul(a, a), w.num(1)))))
}

func (w far) arcsin(q *big.Float) *big.Float {
	return w.angle(w.root(w.sub(w.num(1), w.mul(q, q))), q)
}

func (w far) arccos(q *big.Float) *big.Float {
	return w.angle(q, w.root(w.sub(w.num(1), w.mul(q, q))))
}

// quarter answers a quarter of the logarithm of one over the other square of the
// distances from -1 and 1.
func (w far) quarter(x, y *big.Float) *big.Float {
	above, below := w.squares(w.add(w.num(1), x), y), w.squares(w.sub(w.num(1), x), y)
	return w.scale(w.log(w.quo(above, below)), -2)
}

// half answers half the angle of (1 - x x - y y, 2 x).
func (w far) half(x, y *big.Float) *big.Float {
	return w.scale(w.angle(w.sub(w.num(1), w.squares(x, y)), w.scale(x, 1)), -1)
}

// components answers both of a function at z, and w.
func (w far) components(tag int, l [4]*big.Float) (first, second *big.Float) {
	x, y, u, v := l[0], l[1], l[2], l[3]
	switch tag {
	case api.Abs:
		return w.distance(x, y), w.num(0)
	case api.Arg:
		return w.angle(x, y), w.num(0)
	case api.Conj:
		return x, w.neg(y)
	case api.Proj:
		return x, y
	case api.Mul:
		return w.sub(w.mul(x, u), w.mul(y, v)), w.add(w.mul(x, v), w.mul(y, u))
	case api.Div:
		by := w.squares(u, v)
		return w.quo(w.add(w.mul(x, u), w.mul(y, v)), by), w.quo(w.sub(w.mul(y, u), w.mul(x, v)), by)
	case api.Sqrt:
		r := w.distance(x, y)
		first, second = w.root(w.scale(w.add(r, x), -1)), w.root(w.scale(w.sub(r, x), -1))
		return first, w.like(second, y)
	case api.Exp:
		return w.mul(w.exp(x), w.cos(y)), w.mul(w.exp(x), w.sin(y))
	case api.Log:
		return w.scale(w.log(w.squares(x, y)), -1), w.angle(x, y)
	}
	if tag >= api.Asin {
		return w.inverses(tag, x, y)
	}
	return w.waves(tag, x, y)
}

func (w far) waves(tag int, x, y *big.Float) (first, second *big.Float) {
	switch tag {
	case api.Sin:
		return w.mul(w.sin(x), w.cosh(y)), w.mul(w.cos(x), w.sinh(y))
	case api.Cos:
		return w.mul(w.cos(x), w.cosh(y)), w.neg(w.mul(w.sin(x), w.sinh(y)))
	case api.Tan:
		x, y = w.scale(x, 1), w.scale(y, 1)
		by := w.add(w.cos(x), w.cosh(y))
		return w.quo(w.sin(x), by), w.quo(w.sinh(y), by)
	case api.Sinh:
		return w.mul(w.sinh(x), w.cos(y)), w.mul(w.cosh(x), w.sin(y))
	case api.Cosh:
		return w.mul(w.cosh(x), w.cos(y)), w.mul(w.sinh(x), w.sin(y))
	}
	x, y = w.scale(x, 1), w.scale(y, 1)
	by := w.add(w.cosh(x), w.cos(y))
	return w.quo(w.sinh(x), by), w.quo(w.sin(y), by)
}

func (w far) inverses(tag int, x, y *big.Float) (first, second *big.Float) {
	switch tag {
	case api.Asin:
		a := w.a(x, y)
		return w.arcsin(w.quo(x, a)), w.like(w.arcosh(a), y)
	case api.Acos:
		a := w.a(x, y)
		return w.arccos(w.quo(x, a)), w.like(w.arcosh(a), w.neg(y))
	case api.Atan:
		return w.half(x, y), w.quarter(y, x)
	case api.Asinh:
		b := w.a(y, x)
		return w.like(w.arcosh(b), x), w.arcsin(w.quo(y, b))
	case api.Acosh:
		a := w.a(x, y)
		return w.arcosh(a), w.like(w.arccos(w.quo(x, a)), y)
	}
	return w.quarter(x, y), w.half(y, x)
}

// expected answers both components at words, worked with so many bits.
func (w far) expected(tag int, z api.Four) [2]*big.Float {
	var l [4]*big.Float
	for i, b := range z {
		l[i] = new(big.Float)
		if i < 2 || takesTwo(tag) {
			l[i].SetFloat64(math.Float64frombits(b))
		}
	}
	first, second := w.components(tag, l)
	return [2]*big.Float{first, second}
}

// isHeld tells whether a span has numbers within 2^(-bits) of what is expected,
// next to its size.
func isHeld(a api.Span, want *big.Float, bits int) bool {
	in := far(want.Prec()) + 64
	size := in.scale(in.of(new(big.Float).Abs(want)), -bits)
	return exactly(a.Lo).Cmp(in.add(want, size)) <= 0 && in.sub(want, size).Cmp(exactly(a.Hi)) <= 0
}

// checkHeld holds what is enclosed with p bits against what is worked with so
// many more. What is worked may lose all but 200 bits of these. What is enclosed
// has to be narrow next to its own size, wherever it is; and alone where it is 0.
func checkHeld(t *testing.T, p, tag int, z api.Four, more int) {
	t.Helper()
	want := far(p+more).expected(tag, z)
	got := enclosed(t, p, tag, z)
	for i, a := range got {
		if !isHeld(a, want[i], p+200) {
			t.Errorf("%s with %d bits, %d: %s doesn't hold %s", showCall(tag, z), p, i, showSpan(a), want[i].Text('g', 30))
		}
		if !isWithin(a, p-4) {
			t.Errorf("%s with %d bits, %d: %s isn't narrow", showCall(tag, z), p, i, showSpan(a))
		}
	}
}
