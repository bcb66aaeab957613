package loga_test

import (
	"fmt"
	"math/big"
	"testing"

	"volvelle/api"
	"volvelle/dyad"
	"volvelle/loga"
)

// P6.1, of one number: what is answered is right, holds the logarithm, and is
// relatively narrow.

func check(t *testing.T, p int, x api.Dyad) {
	t.Helper()
	got := answered(t, p, point(x))
	if !holds(got, x, p) {
		t.Errorf("Log of %s with %d bits isn't in %s", show(x), p, showSpan(got))
	}
	if !isNarrow(got, p) {
		t.Errorf("Log of %s with %d bits is wide: %s", show(x), p, showSpan(got))
	}
}

// ordinary answers numbers of every size that is in reach.
func ordinary() []api.Dyad {
	l := []api.Dyad{
		number(2, 0), number(3, 0), number(10, 0), number(100, 0), number(1000, 0), number(3, -1), number(7, -3),
		number(9, -3), number(5, -2), number(3, -2), number(0x1999999999999a, -56), number(1, -1), number(0xFFFFFFFF, -32),
	}
	for top := 1; top <= 20000; top += 1 + top/3 {
		l = append(l, number(1, top), number(1, -top), number(0xFFFFFFFFFFFFF, top-52), number(0x10000000000001, -top))
	}
	return l
}

func TestOrdinaryNumbers(t *testing.T) {
	for _, p := range []int{16, 17, 53, 64, 128, 500, 1100} {
		t.Run(fmt.Sprint(p), func(t *testing.T) {
			t.Parallel()
			for _, x := range ordinary() {
				check(t, p, x)
			}
		})
	}
}

func TestOneAlone(t *testing.T) {
	for p := 16; p <= 7000; p += 97 {
		if got := answered(t, p, point(one())); !isZero(got) {
			t.Errorf("Log of 1 with %d bits: %s", p, showSpan(got))
		}
	}
	for _, p := range []int{16, 7000} {
		if got := answered(t, p, point(one())); !isZero(got) {
			t.Errorf("Log of 1 with %d bits: %s", p, showSpan(got))
		}
	}
}

// Every number of bits at the low end, and some of all.
func TestManyNumbersOfBits(t *testing.T) {
	const parts = 8
	for part := range parts {
		t.Run(fmt.Sprint(part), func(t *testing.T) {
			t.Parallel()
			s := &source{uint64(part)}
			for p := 16 + part; p <= 7000; p += parts {
				if p > 400 {
					p += 12 * parts
				}
				check(t, min(p, 7000), s.anywhere(2))
			}
		})
	}
}

// The edges that the chapter names, together: the least and the greatest number
// of bits, with ends of 2^-20000 and of 2^20000, just within, and near 1.
func TestEdges(t *testing.T) {
	for _, p := range []int{16, 17, 6999, 7000} {
		t.Run(fmt.Sprint(p), func(t *testing.T) {
			t.Parallel()
			for _, x := range []api.Dyad{
				least(), most(), above(least(), -20050), below(most(), 19950),
				above(least(), -20000-api.MaxBits+1), below(most(), 20000-api.MaxBits),
				number(2, 0), number(1, -1), number(3, 0), number(5, -2), number(0xFFFF, -16), number(0x10001, -16),
				above(one(), -100), below(one(), -100), above(one(), -api.MaxBits+1), below(one(), -api.MaxBits),
			} {
				check(t, p, x)
			}
		})
	}
}

func TestNumbersOfAnyLength(t *testing.T) {
	for part := range 8 {
		t.Run(fmt.Sprint(part), func(t *testing.T) {
			t.Parallel()
			s := &source{uint64(100 + part)}
			for range 300 {
				check(t, 16+s.below(300), s.anywhere(6))
			}
			for range 10 {
				check(t, 16+s.below(1500), s.number(api.MaxBits/64, 20000-s.below(40000)))
				check(t, 16+s.below(1500), s.number(api.MaxBits/64, s.below(2)))
			}
		})
	}
}

// Literal digits, so that not all hangs on what the tests work out themselves.
func TestDigits(t *testing.T) {
	for _, x := range []struct {
		of     api.Dyad
		digits string
	}{
		{number(2, 0), "0.6931471805599453094172321214581765680755001343602552541206800094933936"},
		{number(3, 0), "1.0986122886681096913952452369225257046474905578227494517346943336374942"},
		{number(10, 0), "2.3025850929940456840179914546843642076011014886287729760333279009675726"},
		{number(3, -1), "0.4054651081081643819780131154643491365719904234624941976140143241441006"},
	} {
		low, _, _ := big.ParseFloat(x.digits, 10, 400, big.ToNearestEven)
		unit, _, _ := big.ParseFloat("1e-70", 10, 400, big.ToNearestEven)
		high := float(400).Add(low, unit)
		got := answered(t, 400, point(x.of))
		if toFloat(got.Lo).Cmp(low) < 0 || toFloat(got.Hi).Cmp(high) > 0 {
			t.Errorf("Log of %s: %s", show(x.of), showSpan(got))
		}
		under, _ := sides(low, x.of, 200)
		_, over := sides(high, x.of, 200)
		if !under || !over {
			t.Errorf("the tests' logarithm of %s has other digits", show(x.of))
		}
	}
}

// The chapter's example: Log of 10 with 16 bits lies between 2.302 and 2.303.
func TestExample(t *testing.T) {
	got := calc(16).Log(point(number(10, 0)))
	thousand := number(1000, 0)
	low, _ := dyad.Mul(got.Lo, thousand)
	high, _ := dyad.Mul(got.Hi, thousand)
	over, _ := dyad.Cmp(low, number(2302, 0))
	under, _ := dyad.Cmp(high, number(2303, 0))
	if over < 0 || under > 0 {
		t.Error(showSpan(got))
	}
}

// The calls of the calc ahead, and of the work, are the calc's own; and so is
// this one of the calc that embeds it.
func TestPromoted(t *testing.T) {
	type later struct{ loga.Calc }
	c := &later{}
	c.P = 100
	ahead := &calc(100).Calc
	if !same(c.Pi(), ahead.Pi()) || !same(c.Ln2(), ahead.Ln2()) || !same(c.Num(7), point(number(7, 0))) {
		t.Error("other answers of the calls ahead")
	}
	a := point(number(5, -2))
	if !same(c.Exp(a), ahead.Exp(a)) || !same(c.Sinh(a), ahead.Sinh(a)) || !same(c.Cosh(a), ahead.Cosh(a)) {
		t.Error("other answers of the calc ahead")
	}
	if !same(c.Log(a), calc(100).Log(a)) {
		t.Error("another answer of Log")
	}
	c.Log(api.Span{})
	if !c.Calc.Calc.Calc.Work.Bad || !isZero(c.Pi()) || !isZero(c.Exp(a)) || !isZero(c.Num(1)) {
		t.Error("the work at the bottom isn't bad")
	}
}
