package arc_test

import (
	"fmt"
	"math/big"
	"testing"

	"volvelle/api"
	"volvelle/arc"
	"volvelle/dyad"
)

// P8.1, of one number and of one point: what is answered is right, holds the
// angle, and is relatively narrow.

func checkNumber(t *testing.T, p int, x api.Dyad) {
	t.Helper()
	for _, x := range []api.Dyad{x, negative(x)} {
		got := arctangents(t, p, point(x))
		if low, high := bounds(x, one(), p); !holds(got, low, high) {
			t.Errorf("Atan of %s with %d bits isn't in %s", show(x), p, showSpan(got))
		}
		if !isNarrow(got, p) {
			t.Errorf("Atan of %s with %d bits is wide: %s", show(x), p, showSpan(got))
		}
	}
}

// checkPoint checks the point, and these beyond the axes, but those that are let
// through nowhere.
func checkPoint(t *testing.T, p int, y, x api.Dyad) {
	t.Helper()
	for _, y := range []api.Dyad{y, negative(y)} {
		for _, x := range []api.Dyad{x, negative(x)} {
			if isNought(y) && (x.Neg || isNought(x)) {
				continue
			}
			got := angles(t, p, point(y), point(x))
			if low, high := bounds(y, x, p); !holds(got, low, high) {
				t.Errorf("Atan2 of %s and %s with %d bits isn't in %s", show(y), show(x), p, showSpan(got))
			}
			if !isNarrow(got, p) {
				t.Errorf("Atan2 of %s and %s with %d bits is wide: %s", show(y), show(x), p, showSpan(got))
			}
		}
	}
}

// ordinary answers numbers of every size.
func ordinary() []api.Dyad {
	var l []api.Dyad
	for n := int64(1); n <= 1000; n += 1 + n/3 {
		l = append(l, number(n, 0), number(n, -3), number(n, -9))
	}
	for top := 40; top > -40; top -= 3 {
		l = append(l, number(1, top), number(3, top-2), number(0xFFFFFFFFFFFFF, top-52), number(0x10000000000001, top-52))
	}
	return l
}

func TestOrdinaryNumbers(t *testing.T) {
	t.Parallel()
	for _, p := range []int{16, 17, 53, 64, 128, 500, 1100} {
		t.Run(fmt.Sprint(p), func(t *testing.T) {
			t.Parallel()
			for _, x := range ordinary() {
				checkNumber(t, p, x)
			}
		})
	}
}

// In all four quarters.
func TestOrdinaryPoints(t *testing.T) {
	t.Parallel()
	for _, p := range []int{16, 17, 53, 64, 128, 500, 1100} {
		t.Run(fmt.Sprint(p), func(t *testing.T) {
			t.Parallel()
			l := ordinary()
			for i, y := range l {
				checkPoint(t, p, y, l[(i*7+p)%len(l)])
			}
			for y := int64(1); y <= 5; y++ {
				for x := int64(0); x <= 5; x++ {
					checkPoint(t, p, number(y, 0), number(x, 0))
				}
			}
		})
	}
}

// Just 0 of 0, and of all points of the axis of x that lie to the right.
func TestZeroAlone(t *testing.T) {
	s := &source{2}
	for p := 16; p <= 7000; p += 97 {
		for _, p := range []int{p, 7016 - p} {
			if got := arctangents(t, p, api.Span{}); !isZero(got) {
				t.Errorf("Atan of 0 with %d bits: %s", p, showSpan(got))
			}
			x := s.number(3, 19999-s.below(39998))
			x.Neg = false
			for _, x := range []api.Dyad{one(), least(), most(), x} {
				if got := angles(t, p, api.Span{}, point(x)); !isZero(got) {
					t.Errorf("Atan2 of 0 and %s with %d bits: %s", show(x), p, showSpan(got))
				}
			}
			if got := angles(t, p, api.Span{}, between(least(), most())); !isZero(got) {
				t.Errorf("Atan2 of 0 and all to the right with %d bits: %s", p, showSpan(got))
			}
		}
	}
}

// Points of the axis of y: a quarter of a turn, on either side.
func TestOnTheAxisOfY(t *testing.T) {
	s := &source{3}
	for _, p := range []int{16, 17, 53, 64, 300, 1100, 7000} {
		for _, y := range []api.Dyad{one(), number(3, 0), least(), most(), s.number(3, -7), s.number(3, 5000)} {
			checkPoint(t, p, y, zero())
		}
	}
}

// Every number of bits at the low end, and some of all.
func TestManyNumbersOfBits(t *testing.T) {
	t.Parallel()
	const parts = 8
	for part := range parts {
		t.Run(fmt.Sprint(part), func(t *testing.T) {
			t.Parallel()
			s := &source{uint64(part)}
			for p := 16 + part; p <= 7000; p += parts {
				if p > 400 {
					p += 60 * parts
				}
				checkNumber(t, min(p, 7000), s.number(2, 4-s.below(8)))
				checkPoint(t, min(p, 7000), s.number(2, 4-s.below(8)), s.number(2, 4-s.below(8)))
			}
		})
	}
}

// The edges that the chapter names, together: the least and the greatest number
// of bits, with ends of 2^-20000 and of 2^20000, and just within.
func TestEdges(t *testing.T) {
	t.Parallel()
	inner := []api.Dyad{least(), most(), above(least(), -20050), below(most(), 19950)}
	long := []api.Dyad{above(least(), -20000-api.MaxBits+1), below(most(), 20000-api.MaxBits)}
	for _, p := range []int{16, 17, 6999, 7000} {
		t.Run(fmt.Sprint(p), func(t *testing.T) {
			t.Parallel()
			l := inner
			if p < 100 {
				l = append(l, long...)
			}
			for _, y := range append(l, one()) {
				if p < 100 || y.E < 0 {
					checkNumber(t, p, y)
				}
			}
			for i, y := range l {
				for k, x := range append(l, one()) {
					if p < 100 || i+k == 1 {
						checkPoint(t, p, y, x)
					}
				}
			}
		})
	}
}

// The greatest number of bits, at numbers of ordinary size.
func TestMostBits(t *testing.T) {
	t.Parallel()
	for i, x := range []api.Dyad{one(), number(1, -1), number(5, 0), number(3, -40), number(0x1FFFFFFFFFFFFF, -53), number(1, 300)} {
		t.Run(fmt.Sprint(i), func(t *testing.T) {
			t.Parallel()
			checkNumber(t, 7000, x)
			checkPoint(t, 7000, x, number(7, -2))
		})
	}
}

func TestNumbersOfAnyLength(t *testing.T) {
	t.Parallel()
	for part := range 8 {
		t.Run(fmt.Sprint(part), func(t *testing.T) {
			t.Parallel()
			s := &source{uint64(100 + part)}
			for range 60 {
				p := 16 + s.below(300)
				checkNumber(t, p, s.number(6, 60-s.below(120)))
				checkPoint(t, p, s.number(6, 30-s.below(60)), s.number(6, 30-s.below(60)))
			}
			for range 5 {
				p := 16 + s.below(1200)
				checkNumber(t, p, s.number(api.MaxBits/64, 10-s.below(20)))
				checkPoint(t, p, s.number(api.MaxBits/64, 1000-s.below(2000)), s.number(api.MaxBits/64, 10-s.below(20)))
			}
		})
	}
}

// Literal digits, so that not all hangs on what the tests work out themselves.
func TestDigits(t *testing.T) {
	for _, x := range []struct {
		y, x   int64
		digits string
	}{
		{1, 1, "0.785398163397448309615660845819875721049292349843776455243736148076954"},
		{1, 2, "0.463647609000806116214256231461214402028537054286120263810933088720197"},
		{2, 1, "1.107148717794090503017065460178537040070047645401432646676539207433710"},
		{3, 1, "1.249045772398254425829917077281090123077829404129896719054669236797151"},
		{-1, 2, "-0.463647609000806116214256231461214402028537054286120263810933088720197"},
		{1, 0, "1.570796326794896619231321691639751442098584699687552910487472296153908"},
		{-1, 0, "-1.570796326794896619231321691639751442098584699687552910487472296153908"},
		{1, -1, "2.356194490192344928846982537459627163147877049531329365731208444230862"},
		{-1, -1, "-2.356194490192344928846982537459627163147877049531329365731208444230862"},
		{1, -2, "2.677945044588987122248387151818288482168632345088985557164011503587618"},
	} {
		value, _, err := big.ParseFloat(x.digits, 10, 400, big.ToNearestEven)
		if err != nil {
			t.Fatal(err)
		}
		unit, _, _ := big.ParseFloat("1e-69", 10, 400, big.ToNearestEven)
		low, high := float(400).Sub(value, unit), float(400).Add(value, unit)
		got := angles(t, 400, point(number(x.y, 0)), point(number(x.x, 0)))
		if toFloat(got.Lo).Cmp(low) < 0 || toFloat(got.Hi).Cmp(high) > 0 {
			t.Errorf("Atan2 of %d and %d: %s", x.y, x.x, showSpan(got))
		}
		under, over := bounds(number(x.y, 0), number(x.x, 0), 200)
		if under.Cmp(low) < 0 || over.Cmp(high) > 0 {
			t.Errorf("the tests' angle of %d and %d has other digits", x.y, x.x)
		}
		if x.x != 1 {
			continue
		}
		got = arctangents(t, 400, point(number(x.y, 0)))
		if toFloat(got.Lo).Cmp(low) < 0 || toFloat(got.Hi).Cmp(high) > 0 {
			t.Errorf("Atan of %d: %s", x.y, showSpan(got))
		}
	}
}

// The chapter's example: Atan2 of 1 and -1 holds three quarters of pi.
func TestExample(t *testing.T) {
	for _, p := range []int{16, 53, 1000} {
		got := angles(t, p, point(one()), point(number(-1, 0)))
		value := float(2000).Mul(quarter(2000), float(8).SetFloat64(1.5))
		if !holds(got, value, value) {
			t.Error(showSpan(got))
		}
	}
	got := angles(t, 16, point(one()), point(number(-1, 0)))
	thousand := number(1000, 0)
	low, _ := dyad.Mul(got.Lo, thousand)
	high, _ := dyad.Mul(got.Hi, thousand)
	over, _ := dyad.Cmp(low, number(2355, 0))
	under, _ := dyad.Cmp(high, number(2357, 0))
	if over < 0 || under > 0 {
		t.Error(showSpan(got))
	}
}

// The calls of the calcs ahead, and of the work, are the calc's own; and so are
// these of the calc that embeds it.
func TestPromoted(t *testing.T) {
	type later struct{ arc.Calc }
	c := &later{}
	c.P = 100
	ahead := &calc(100).Calc
	if !same(c.Pi(), ahead.Pi()) || !same(c.Ln2(), ahead.Ln2()) || !same(c.Num(7), point(number(7, 0))) {
		t.Error("other answers of the calls of the work and of the series")
	}
	a := point(number(5, -2))
	if !same(c.Exp(a), ahead.Exp(a)) || !same(c.Log(a), ahead.Log(a)) || !same(c.Sin(a), ahead.Sin(a)) || !same(c.Cos(a), ahead.Cos(a)) {
		t.Error("other answers of the calcs ahead")
	}
	if !same(c.Atan(a), calc(100).Atan(a)) || !same(c.Atan2(a, a), calc(100).Atan2(a, a)) {
		t.Error("other answers of Atan and Atan2")
	}
	c.Atan2(api.Span{}, api.Span{})
	if !c.Calc.Calc.Calc.Calc.Calc.Work.Bad || !isZero(c.Pi()) || !isZero(c.Sin(a)) || !isZero(c.Atan(a)) || !isZero(c.Num(1)) {
		t.Error("the work at the bottom isn't bad")
	}
}
