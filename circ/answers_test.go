package circ_test

import (
	"fmt"
	"math/big"
	"testing"

	"volvelle/api"
	"volvelle/circ"
	"volvelle/dyad"
)

// P7.1, of one number: what is answered is right, from -1 to 1, holds what the
// function comes to, and is narrow.

func check(t *testing.T, f function, p int, x api.Dyad) {
	t.Helper()
	got := answered(t, f, p, point(x))
	if low, high := f.bounds(x, p); !holds(got, low, high) {
		t.Errorf("%s of %s with %d bits isn't in %s", f.name, show(x), p, showSpan(got))
	}
	if !isNarrow(got, p) {
		t.Errorf("%s of %s with %d bits is wide: %s", f.name, show(x), p, showSpan(got))
	}
	if f.name == "Sin" && isSmall(x) && !isRelativelyNarrow(got, p) {
		t.Errorf("Sin of %s with %d bits is wide next to its size: %s", show(x), p, showSpan(got))
	}
}

func checkBoth(t *testing.T, p int, x api.Dyad) {
	t.Helper()
	for _, f := range functions() {
		check(t, f, p, x)
		check(t, f, p, negative(x))
	}
}

// ordinary answers numbers of every size that is in reach.
func ordinary() []api.Dyad {
	var l []api.Dyad
	for n := int64(1); n <= 65536; n += 1 + n/3 {
		l = append(l, number(n, 0), number(n, -3), number(n, -16))
	}
	for top := 15; top > -100; top -= 1 + max(-top, 0)/4 {
		l = append(l, number(1, top), number(3, top-2), number(0xFFFFFFFFFFFFF, top-52), number(0x10000000000001, top-52))
	}
	return l
}

func TestOrdinaryNumbers(t *testing.T) {
	t.Parallel()
	for _, p := range []int{16, 17, 53, 64, 128, 500, 1100} {
		t.Run(fmt.Sprint(p), func(t *testing.T) {
			t.Parallel()
			for _, x := range ordinary() {
				checkBoth(t, p, x)
			}
		})
	}
}

// Just 0 and just 1 of 0.
func TestZeroAlone(t *testing.T) {
	for p := 16; p <= 7000; p += 97 {
		for _, f := range functions() {
			for _, p := range []int{p, 7016 - p} {
				if got := answered(t, f, p, api.Span{}); !same(got, point(number(f.atZero, 0))) {
					t.Errorf("%s of 0 with %d bits: %s", f.name, p, showSpan(got))
				}
			}
		}
	}
}

// Every number of bits at the low end, and some of all.
func TestManyNumbersOfBits(t *testing.T) {
	t.Parallel()
	const parts = 8
	for part := range parts {
		t.Run(fmt.Sprint(part), func(t *testing.T) {
			t.Parallel()
			s := &source{uint64(part)}
			for p := 16 + part; p <= 7000; p += parts {
				if p > 400 {
					p += 12 * parts
				}
				checkBoth(t, min(p, 7000), s.anywhere(2))
			}
		})
	}
}

// The edges that the chapter names, together: the least and the greatest number
// of bits, with ends of 65536 in size, just within, about 1/2, and about where
// the functions turn.
func TestEdges(t *testing.T) {
	t.Parallel()
	half := number(1, -1)
	for _, p := range []int{16, 17, 6999, 7000} {
		t.Run(fmt.Sprint(p), func(t *testing.T) {
			t.Parallel()
			for _, x := range []api.Dyad{
				most(), below(most(), 0), below(most(), -47), below(most(), 16-api.MaxBits), below(most(), -5000),
				number(1, 0), half, above(half, -60), below(half, -60), below(half, -1-api.MaxBits), above(half, -api.MaxBits),
				number(3, -3), number(11, -3), number(25, -3), number(1, -30), near(1, 7100), near(2, 7100), near(41721, 7100),
				near(41720, 16), near(3, 3000), near(4, 3000),
			} {
				checkBoth(t, p, x)
			}
		})
	}
}

// About 1/2 it changes how narrow Sin is at least.
func TestAboutHalf(t *testing.T) {
	half := number(1, -1)
	for _, p := range []int{16, 53, 300} {
		for off := 2; off < 2*p+200; off += 1 + off/8 {
			checkBoth(t, p, above(half, -off))
			checkBoth(t, p, below(half, -off))
		}
		checkBoth(t, p, half)
	}
}

func TestNumbersOfAnyLength(t *testing.T) {
	t.Parallel()
	for part := range 8 {
		t.Run(fmt.Sprint(part), func(t *testing.T) {
			t.Parallel()
			s := &source{uint64(100 + part)}
			for range 300 {
				checkBoth(t, 16+s.below(300), s.anywhere(6))
			}
			for range 10 {
				checkBoth(t, 16+s.below(1500), s.number(api.MaxBits/64, 16-s.below(40)))
			}
		})
	}
}

// Literal digits, so that not all hangs on what the tests work out themselves.
func TestDigits(t *testing.T) {
	for _, x := range []struct {
		f      function
		of     int64
		digits string
	}{
		{sine(), 1, "0.84147098480789650665250232163029899962256306079837106567275170999191"},
		{cosine(), 1, "0.54030230586813971740093660744297660373231042061792222767009725538110"},
		{sine(), 2, "0.90929742682568169539601986591174484270225497144789026837897301153096"},
		{cosine(), 2, "-0.41614683654714238699756822950076218976600077107554489075514997378196"},
		{sine(), 100, "-0.50636564110975879365655761045978543206503272129065732344339247359443"},
		{cosine(), 100, "0.86231887228768393410193851395084253551008400853551082928016211269273"},
	} {
		value, _, err := big.ParseFloat(x.digits, 10, 400, big.ToNearestEven)
		if err != nil {
			t.Fatal(err)
		}
		unit, _, _ := big.ParseFloat("1e-67", 10, 400, big.ToNearestEven)
		low, high := float(400).Sub(value, unit), float(400).Add(value, unit)
		got := answered(t, x.f, 400, point(number(x.of, 0)))
		if toFloat(got.Lo).Cmp(low) < 0 || toFloat(got.Hi).Cmp(high) > 0 {
			t.Errorf("%s of %d: %s", x.f.name, x.of, showSpan(got))
		}
		under, over := x.f.bounds(number(x.of, 0), 200)
		if under.Cmp(low) < 0 || over.Cmp(high) > 0 {
			t.Errorf("the tests' %s of %d has other digits", x.f.name, x.of)
		}
	}
}

// The chapter's example: Sin of 1 with 16 bits lies between 0.841 and 0.842.
func TestExample(t *testing.T) {
	got := calc(16).Sin(point(number(1, 0)))
	thousand := number(1000, 0)
	low, _ := dyad.Mul(got.Lo, thousand)
	high, _ := dyad.Mul(got.Hi, thousand)
	over, _ := dyad.Cmp(low, number(841, 0))
	under, _ := dyad.Cmp(high, number(842, 0))
	if over < 0 || under > 0 {
		t.Error(showSpan(got))
	}
}

// The calls of the calcs ahead, and of the work, are the calc's own; and so are
// these of the calc that embeds it.
func TestPromoted(t *testing.T) {
	type later struct{ circ.Calc }
	c := &later{}
	c.P = 100
	ahead := &calc(100).Calc
	if !same(c.Pi(), ahead.Pi()) || !same(c.Ln2(), ahead.Ln2()) || !same(c.Num(7), point(number(7, 0))) {
		t.Error("other answers of the calls of the work and of the series")
	}
	a := point(number(5, -2))
	if !same(c.Exp(a), ahead.Exp(a)) || !same(c.Sinh(a), ahead.Sinh(a)) || !same(c.Cosh(a), ahead.Cosh(a)) || !same(c.Log(a), ahead.Log(a)) {
		t.Error("other answers of the calcs ahead")
	}
	if !same(c.Sin(a), calc(100).Sin(a)) || !same(c.Cos(a), calc(100).Cos(a)) {
		t.Error("other answers of Sin and Cos")
	}
	c.Sin(point(number(65537, 0)))
	if !c.Calc.Calc.Calc.Calc.Work.Bad || !isZero(c.Pi()) || !isZero(c.Log(a)) || !isZero(c.Cos(a)) || !isZero(c.Num(1)) {
		t.Error("the work at the bottom isn't bad")
	}
}
