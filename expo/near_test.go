package expo_test

import (
	"math/big"
	"testing"

	"volvelle/api"
)

// P5.1, of numbers near 0.

// bits is enough for a number at the least exponent, and its cube, exactly.
const bits = 4 * api.MaxExp

// tiny answers bounds of what the functions come to at x, which is below 2^-3 in
// size, by the first terms alone; x and its powers told exactly.
func (f function) tiny(x api.Dyad) (low, high *big.Float) {
	n := toFloat(x).SetPrec(bits)
	power := float(bits).Mul(n, n)
	switch f.name {
	case "Exp":
		low = float(bits).Add(float(1).SetInt64(1), n)
		return low, float(bits).Add(low, power)
	case "Cosh":
		return float(1).SetInt64(1), float(bits).Add(float(1).SetInt64(1), power)
	}
	power.Mul(power, n)
	low, high = n, float(bits).Add(n, power)
	if x.Neg {
		return high, low
	}
	return low, high
}

func checkTiny(t *testing.T, p int, x api.Dyad) {
	t.Helper()
	for _, f := range functions() {
		got := answered(t, f, p, point(x))
		if low, high := f.tiny(x); !holds(got, low, high) || !isNarrow(got, p) {
			t.Errorf("%s of %s with %d bits: %s", f.name, show(x), p, showSpan(got))
		}
	}
}

// Where what is told finely is about the size of what is left of a series.
func TestNear(t *testing.T) {
	for _, p := range []int{16, 53, 200} {
		for top := -1; top > -3*p-100; top -= 1 + p/16 {
			checkBoth(t, p, number(1, top))
			checkBoth(t, p, number(0x1FFFFFFFFFFFFF, top-53))
		}
	}
	for _, top := range []int{-100, -2000, -3400, -3600} {
		checkBoth(t, 7000, number(5, top))
	}
}

func TestTiny(t *testing.T) {
	for _, p := range []int{16, 53, 1000, 7000} {
		for _, top := range []int{-8000, -20000, -100000, -131072, -131073, -200000, -250000} {
			for _, n := range []int64{1, -1, 3, 0x7FFFFFFFFFFFFFFF, -0x7FFFFFFFFFFFFFFF} {
				checkTiny(t, p, number(n, top))
			}
		}
	}
	s := &source{7}
	for _, top := range []int{-9000, -150000, -api.MaxExp + api.MaxBits} {
		checkTiny(t, 16+s.below(7000), s.number(api.MaxBits/64, top))
	}
}

// Next to the least exponent no numbers of all bits stand: there lies one step
// alone between a number and what its Sinh is below, and the lone number is
// answered where that is narrow.
func TestSinhAtTheLeastExponent(t *testing.T) {
	sinh := functions()[1]
	const least = -api.MaxExp
	for _, p := range []int{16, 17, 53, 500, 7000} {
		for _, x := range []struct {
			size   api.Dyad
			narrow bool
		}{
			{number(1, least), false},
			{number(3, least), false},
			{number(1, least+1), false},
			{number(1, least+p-5), false},
			{above(number(1, least+p-5), least), false},
			{number(1, least+p-4), true},
			{above(number(1, least+p-4), least), true},
			{number(1, least+p-1), true},
			{above(number(1, least+p-1), least), true},
			{number(1, least+p), true},
			{above(number(1, least+p), least), true},
			{above(number(1, least+p+1), least), true},
			{number(1, least+2*p), true},
		} {
			for _, size := range []api.Dyad{x.size, negative(x.size)} {
				c := calc(p)
				got := c.Sinh(point(size))
				if c.Bad == x.narrow || c.Bad && !isZero(got) {
					t.Errorf("Sinh of %s with %d bits: %s, bad %v", show(size), p, showSpan(got), c.Bad)
				}
				low, high := sinh.tiny(size)
				if x.narrow && (!isRight(got) || !holds(got, low, high) || !isNarrow(got, p)) {
					t.Errorf("Sinh of %s with %d bits: %s", show(size), p, showSpan(got))
				}
			}
		}
		// One step below a power of 2 the greater end is that power.
		last := above(number(1, least+p-4), least)
		last, _ = minus(last, number(2, least))
		if got := answered(t, sinh, p, point(last)); !sameDyad(got.Hi, number(1, least+p-4)) {
			t.Errorf("with %d bits: %s", p, showSpan(got))
		}
		for _, f := range []function{functions()[0], functions()[2]} {
			got := answered(t, f, p, point(number(-3, least)))
			if low, high := f.tiny(number(-3, least)); !holds(got, low, high) || !isNarrow(got, p) {
				t.Errorf("%s with %d bits: %s", f.name, p, showSpan(got))
			}
		}
	}
}

// Of more numbers than one nothing is too wide: nothing there is refused.
func TestSpansAtTheLeastExponent(t *testing.T) {
	const least = -api.MaxExp
	for _, p := range []int{16, 53, 7000} {
		for _, a := range []api.Span{
			between(api.Dyad{}, number(1, least)),
			between(number(-1, least), api.Dyad{}),
			between(number(-1, least), number(3, least)),
			between(number(1, least), number(1, least+1)),
			between(number(-5, least), number(-3, least)),
			between(number(1, least), number(65536, 0)),
			between(number(-65536, 0), number(-1, least)),
		} {
			for _, f := range functions() {
				got := answered(t, f, p, a)
				for _, x := range []api.Dyad{a.Lo, a.Hi} {
					if x.E > least/2 {
						continue
					}
					if low, high := f.tiny(x); !holds(got, low, high) {
						t.Errorf("%s of %s with %d bits: %s", f.name, showSpan(a), p, showSpan(got))
					}
				}
			}
		}
	}
}
