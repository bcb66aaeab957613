package circ_test

import (
	"fmt"
	"math/big"
	"testing"

	"volvelle/api"
)

// P7.1, of numbers near 0, and near whole quarters of a turn.

// tinyBits are enough for a number at the least exponent, and its cube, exactly.
const tinyBits = 4 * api.MaxExp

// tiny answers bounds of what the function comes to at x, which is below 2^-3 in
// size, by the first terms alone; x and its powers told exactly.
func (f function) tiny(x api.Dyad) (low, high *big.Float) {
	n := toFloat(x).SetPrec(tinyBits)
	power := float(tinyBits).Mul(n, n)
	if f.name == "Cos" {
		one := float(1).SetInt64(1)
		return float(tinyBits).Sub(one, power), one
	}
	power.Mul(power, n)
	low, high = float(tinyBits).Sub(n, power), n
	if x.Neg {
		return high, low
	}
	return low, high
}

func checkTiny(t *testing.T, p int, x api.Dyad) {
	t.Helper()
	for _, f := range functions() {
		got := answered(t, f, p, point(x))
		if low, high := f.tiny(x); !holds(got, low, high) || !isNarrow(got, p) {
			t.Errorf("%s of %s with %d bits: %s", f.name, show(x), p, showSpan(got))
		}
		if f.name == "Sin" && !isRelativelyNarrow(got, p) {
			t.Errorf("Sin of %s with %d bits is wide next to its size: %s", show(x), p, showSpan(got))
		}
	}
}

// Where it is decided how often a number is halved, and where what is told
// finely is about the size of what is left of a series.
func TestNear(t *testing.T) {
	for _, p := range []int{16, 53, 200} {
		for top := -1; top > -3*p-100; top -= 1 + p/16 {
			checkBoth(t, p, number(1, top))
			checkBoth(t, p, number(0x1FFFFFFFFFFFFF, top-53))
		}
		depth := calc(p).Depth()
		for top := -depth - 3; top <= -depth+3; top++ {
			checkBoth(t, p, number(1, top))
			checkBoth(t, p, below(number(1, top), top-200))
			checkBoth(t, p, above(number(1, top), top-200))
		}
		for top := -p - 66 - 2*depth; top <= -p-61-2*depth; top++ {
			checkBoth(t, p, number(1, top))
			checkBoth(t, p, below(number(1, top), top-200))
		}
	}
	for _, top := range []int{-29, -30, -31, -100, -2000, -3400, -3600} {
		checkBoth(t, 7000, number(5, top))
	}
}

func TestTiny(t *testing.T) {
	for _, p := range []int{16, 53, 1000, 7000} {
		for _, top := range []int{-7100, -7200, -8000, -20000, -100000, -131072, -131073, -200000, -250000} {
			for _, n := range []int64{1, -1, 3, 0x7FFFFFFFFFFFFFFF, -0x7FFFFFFFFFFFFFFF} {
				checkTiny(t, p, number(n, top))
			}
		}
	}
	s := &source{7}
	for _, top := range []int{-9000, -150000, -api.MaxExp + api.MaxBits} {
		checkTiny(t, 16+s.below(7000-16), s.number(api.MaxBits/64, top))
	}
}

// Next to the least exponent no numbers of all bits stand: there lies one step
// alone between a number and what its Sin is above, and the lone number is
// answered where that is narrow.
func TestSinAtTheLeastExponent(t *testing.T) {
	const least = -api.MaxExp
	for _, p := range []int{16, 17, 53, 500, 7000} {
		for _, x := range []struct {
			size   api.Dyad
			narrow bool
		}{
			{number(1, least), false},
			{number(3, least), false},
			{number(1, least+1), false},
			{number(1, least+p-5), false},
			{below(number(1, least+p-4), least), false},
			{number(1, least+p-4), true},
			{above(number(1, least+p-4), least), true},
			{number(1, least+p-1), true},
			{above(number(1, least+p-1), least), true},
			{number(1, least+p), true},
			{above(number(1, least+p), least), true},
			{above(number(1, least+p+1), least), true},
			{number(1, least+p+80), true},
			{number(1, least+2*p), true},
		} {
			for _, size := range []api.Dyad{x.size, negative(x.size)} {
				c := calc(p)
				got := c.Sin(point(size))
				if c.Bad == x.narrow || c.Bad && !isZero(got) || c.P != p {
					t.Errorf("Sin of %s with %d bits: %s, bad %v", show(size), p, showSpan(got), c.Bad)
				}
				low, high := sine().tiny(size)
				if x.narrow && (!isRight(got) || !holds(got, low, high) || !isRelativelyNarrow(got, p)) {
					t.Errorf("Sin of %s with %d bits: %s", show(size), p, showSpan(got))
				}
				got = answered(t, cosine(), p, point(size))
				if low, high := cosine().tiny(size); !holds(got, low, high) || !isNarrow(got, p) {
					t.Errorf("Cos of %s with %d bits: %s", show(size), p, showSpan(got))
				}
			}
		}
	}
}

// Of more numbers than one nothing is too wide: nothing there is refused.
func TestSpansAtTheLeastExponent(t *testing.T) {
	const least = -api.MaxExp
	for _, p := range []int{16, 53, 7000} {
		for _, a := range []api.Span{
			between(api.Dyad{}, number(1, least)),
			between(number(-1, least), api.Dyad{}),
			between(number(-1, least), number(3, least)),
			between(number(1, least), number(1, least+1)),
			between(number(-5, least), number(-3, least)),
			between(number(1, least), most()),
			between(negative(most()), number(-1, least)),
			between(number(3, least), number(1, -1)),
		} {
			for _, f := range functions() {
				got := answered(t, f, p, a)
				for _, x := range []api.Dyad{a.Lo, a.Hi} {
					if x.E > least/2 {
						continue
					}
					if low, high := f.tiny(x); !holds(got, low, high) {
						t.Errorf("%s of %s with %d bits: %s", f.name, showSpan(a), p, showSpan(got))
					}
				}
			}
		}
	}
}

// quarters answers whole quarters of a turn of all sizes that are in reach.
func quarters() []int64 {
	l := []int64{1, 2, 3, 4, 5, 6, 7, 8, 41718, 41719, 41720, 41721}
	for n := int64(9); n < 41700; n += 1 + n/2 {
		l = append(l, n)
	}
	return l
}

// The numbers of so many bits that are nearest to a quarter of a turn, and those
// next to them on both sides.
func TestNearQuarters(t *testing.T) {
	t.Parallel()
	for _, p := range []int{16, 53, 150} {
		t.Run(fmt.Sprint(p), func(t *testing.T) {
			t.Parallel()
			for _, n := range quarters() {
				for _, behind := range []int{0, 1, p / 2, p - 3, p, p + 3, p + 50, p + 64, p + 90, 2 * p, 3*p + 100} {
					x := near(n, behind)
					checkBoth(t, p, x)
					checkBoth(t, p, above(x, -behind))
					checkBoth(t, p, below(x, -behind))
				}
			}
		})
	}
}

// So near a quarter that the bits of the number are far more than the calc's.
func TestVeryNearQuarters(t *testing.T) {
	t.Parallel()
	for _, p := range []int{16, 7000} {
		for i, n := range []int64{1, 2, 3, 4, 41720, 41721} {
			t.Run(fmt.Sprint(p, n), func(t *testing.T) {
				t.Parallel()
				for _, behind := range []int{6900, 7000, 7064, 7124, 16300} {
					x := near(n, behind)
					if i%2 == 1 {
						x = negative(x)
					}
					for _, f := range functions() {
						check(t, f, p, x)
						check(t, f, p, above(x, -behind))
					}
				}
			})
		}
	}
}

// By how much the ends lie beyond what is answered is seen where that is nearly 1
// in size: there what is cut outward is 1.
func TestEndsAtOne(t *testing.T) {
	one := number(1, 0)
	for _, p := range []int{16, 53, 1000} {
		for _, n := range quarters() {
			for _, x := range []api.Dyad{near(n, p/2+3), near(n, 2*p)} {
				for _, f := range functions() {
					got := answered(t, f, p, point(x))
					times := (n + f.quarters) & 3
					if times == 0 && !sameDyad(got.Hi, one) || times == 2 && !sameDyad(got.Lo, negative(one)) {
						t.Errorf("%s of %s with %d bits: %s", f.name, show(x), p, showSpan(got))
					}
				}
			}
		}
	}
}
