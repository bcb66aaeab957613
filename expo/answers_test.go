package expo_test

import (
	"fmt"
	"math/big"
	"testing"

	"volvelle/api"
	"volvelle/dyad"
	"volvelle/expo"
)

// P5.1, of one number: what is answered is right, holds what the function comes
// to, and is relatively narrow.

func check(t *testing.T, p int, x api.Dyad) {
	t.Helper()
	for _, f := range functions() {
		got := answered(t, f, p, point(x))
		if low, high := f.bounds(x, p); !holds(got, low, high) {
			t.Errorf("%s of %s with %d bits isn't in %s", f.name, show(x), p, showSpan(got))
		}
		if !isNarrow(got, p) {
			t.Errorf("%s of %s with %d bits is wide: %s", f.name, show(x), p, showSpan(got))
		}
	}
}

// checkBoth checks x and what lies on the other side of 0.
func checkBoth(t *testing.T, p int, x api.Dyad) {
	t.Helper()
	check(t, p, x)
	check(t, p, negative(x))
}

// ordinary answers numbers of every size that is in reach, and near 0.
func ordinary() []api.Dyad {
	l := []api.Dyad{
		number(1, 0), number(2, 0), number(3, 0), number(10, 0), number(100, 0), number(709, 0), number(1000, 0),
		number(32768, 0), number(65535, 0), number(65536, 0), number(3, -1), number(7, -3), number(0x1999999999999a, -56),
	}
	for top := 16; top >= -40; top-- {
		l = append(l, number(1, top), number(0xFFFFFFFFFFFFF, top-52))
	}
	return l
}

func TestOrdinaryNumbers(t *testing.T) {
	for _, p := range []int{16, 17, 53, 64, 128, 500} {
		t.Run(fmt.Sprint(p), func(t *testing.T) {
			t.Parallel()
			for _, x := range ordinary() {
				checkBoth(t, p, x)
			}
		})
	}
}

func TestZeroAlone(t *testing.T) {
	for p := 16; p <= 7000; p += 97 {
		for _, f := range functions() {
			want := point(number(f.atZero, 0))
			for _, zero := range []api.Span{{}, {Lo: api.Dyad{M: []uint64{}}, Hi: api.Dyad{M: []uint64{}}}} {
				if got := answered(t, f, p, zero); !same(got, want) {
					t.Errorf("%s of 0 with %d bits: %s", f.name, p, showSpan(got))
				}
			}
		}
	}
}

// Every number of bits at the low end, and some of all.
func TestManyNumbersOfBits(t *testing.T) {
	const parts = 8
	for part := range parts {
		t.Run(fmt.Sprint(part), func(t *testing.T) {
			t.Parallel()
			s := &source{uint64(part)}
			for p := 16 + part; p <= 7000; p += parts {
				if p > 400 {
					p += 12 * parts
				}
				check(t, min(p, 7000), s.number(2, 15-s.below(40)))
			}
		})
	}
}

// The edges that the chapter names, together: the least and the greatest number
// of bits, with ends that are 65536 in size, just within, and near 0.
func TestEdges(t *testing.T) {
	for _, p := range []int{16, 7000} {
		for _, x := range []api.Dyad{
			number(65536, 0), number(0xFFFFFFFFFFFFF, -36), above(number(-65536, 0), -60), above(number(-65536, 0), -16000),
			number(1, 0), number(1, -15), number(1, -16), number(1, -17), number(0xFFFF, -32), number(1, -1000),
		} {
			checkBoth(t, p, x)
		}
	}
}

func TestNumbersOfAnyLength(t *testing.T) {
	for part := range 8 {
		t.Run(fmt.Sprint(part), func(t *testing.T) {
			t.Parallel()
			s := &source{uint64(100 + part)}
			for range 300 {
				check(t, 16+s.below(300), s.number(6, 16-s.below(60)))
			}
			for range 10 {
				check(t, 16+s.below(1000), s.number(api.MaxBits/64, 16-s.below(60)))
			}
		})
	}
}

// Literal digits, so that not all hangs on what the tests work out themselves.
func TestDigits(t *testing.T) {
	for i, digits := range []string{
		"2.7182818284590452353602874713526624977572470936999595749669676277240766",
		"1.1752011936438014568823818505956008151557179813340958702295654130133075",
		"1.5430806348152437784779056207570616826015291123658637047374022147107690",
	} {
		f := functions()[i]
		low, _, _ := big.ParseFloat(digits, 10, 400, big.ToNearestEven)
		unit, _, _ := big.ParseFloat("1e-70", 10, 400, big.ToNearestEven)
		high := float(400).Add(low, unit)
		got := answered(t, f, 400, point(number(1, 0)))
		if toFloat(got.Lo).Cmp(low) < 0 || toFloat(got.Hi).Cmp(high) > 0 {
			t.Errorf("%s of 1: %s", f.name, showSpan(got))
		}
		if from, to := f.bounds(number(1, 0), 400); from.Cmp(low) < 0 || to.Cmp(high) > 0 {
			t.Errorf("the tests' %s of 1 has other digits", f.name)
		}
	}
}

// The chapter's example: Exp of 1 with 16 bits lies between 2.718 and 2.719.
func TestExample(t *testing.T) {
	got := calc(16).Exp(point(number(1, 0)))
	thousand := number(1000, 0)
	low, _ := dyad.Mul(got.Lo, thousand)
	high, _ := dyad.Mul(got.Hi, thousand)
	over, _ := dyad.Cmp(low, number(2718, 0))
	under, _ := dyad.Cmp(high, number(2719, 0))
	if over < 0 || under > 0 {
		t.Error(showSpan(got))
	}
}

// The calls of the calc ahead, and of the work, are the calc's own; and so are
// these of the one that embeds it.
func TestPromoted(t *testing.T) {
	type later struct{ expo.Calc }
	c := &later{}
	c.P = 100
	if !same(c.Pi(), calc(100).Calc.Pi()) || !same(c.Ln2(), calc(100).Calc.Ln2()) || !same(c.Num(7), point(number(7, 0))) {
		t.Error("other answers of the calls ahead")
	}
	for _, f := range functions() {
		if a := point(number(5, -2)); !same(f.call(&c.Calc, a), f.call(calc(100), a)) {
			t.Error(f.name)
		}
	}
	c.Exp(point(number(65537, 0)))
	if !c.Calc.Calc.Work.Bad || !isZero(c.Pi()) || !isZero(c.Num(1)) {
		t.Error("the work at the bottom isn't bad")
	}
}
