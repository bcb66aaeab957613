package series_test

import (
	"fmt"
	"math/big"
	"testing"

	"volvelle/series"
)

// P4.1: what is answered is right, holds the constant, and is as narrow as told.

// check holds what calcs of p bits answer against the constants.
func check(t *testing.T, p int) {
	t.Helper()
	for _, x := range constants() {
		c := calc(p)
		got := x.call(c)
		if c.Bad || c.P != p || !isRight(got) {
			t.Fatalf("%s with %d bits: %v, bad %v, %d bits later", x.name, p, got, c.Bad, c.P)
		}
		low, high := units(t, got.Lo), units(t, got.Hi)
		if low.Cmp(x.low) > 0 || high.Cmp(x.high) < 0 {
			t.Errorf("%s with %d bits isn't in what is answered", x.name, p)
		}
		widest := new(big.Int).Lsh(big.NewInt(1), uint(scale+4-p))
		if high.Sub(high, low).Cmp(widest) > 0 {
			t.Errorf("%s with %d bits is wider than 2^%d", x.name, p, 4-p)
		}
	}
}

func TestEveryNumberOfBits(t *testing.T) {
	const parts = 8
	for part := range parts {
		t.Run(fmt.Sprint(part), func(t *testing.T) {
			t.Parallel()
			for p := 16 + part; p <= 7000; p += parts {
				check(t, p)
			}
		})
	}
}

func TestBitsAtTheEdges(t *testing.T) {
	for _, p := range []int{16, 17, 63, 64, 65, 6999, 7000} {
		check(t, p)
	}
}

// Literal digits, so that not all hangs on what the tests work out themselves.
func TestDigits(t *testing.T) {
	for i, digits := range []string{
		"31415926535897932384626433832795028841971693993751058209749445923078164062862089986280348253421170679",
		"6931471805599453094172321214581765680755001343602552541206800094933936219696947156058633269964186875",
	} {
		x := constants()[i]
		want, _ := new(big.Int).SetString(digits, 10)
		if !fits(x, want, 100) {
			t.Errorf("the tests' %s has other digits", x.name)
		}
		got := x.call(calc(400))
		x.low, x.high = units(t, got.Lo), units(t, got.Hi)
		if !fits(x, want, 100) {
			t.Errorf("%s with 400 bits has other digits", x.name)
		}
	}
}

// fits tells whether both bounds have these digits, so many behind the point.
func fits(x constant, digits *big.Int, places int64) bool {
	ten := new(big.Int).Exp(big.NewInt(10), big.NewInt(places), nil)
	for _, bound := range []*big.Int{x.low, x.high} {
		n := new(big.Int).Mul(bound, ten)
		if n.Rsh(n, scale).Cmp(digits) != 0 {
			return false
		}
	}
	return true
}

// The chapter's example: with 16 bits Pi lies between 3.1411 and 3.1421.
func TestExample(t *testing.T) {
	got := calc(16).Pi()
	low, high := units(t, got.Lo), units(t, got.Hi)
	for _, x := range []struct {
		end  *big.Int
		n    int64
		want int
	}{{low, 31411, 1}, {high, 31421, -1}} {
		bound := new(big.Int).Lsh(big.NewInt(x.n), scale)
		if x.end.Mul(x.end, big.NewInt(10000)).Cmp(bound) != x.want {
			t.Error(got)
		}
	}
}

// The layer ahead of the next: its struct embeds this one's, with all calls.
type later struct {
	series.Calc
}

func TestEmbeddedTwice(t *testing.T) {
	c := &later{}
	c.P = 100
	if !same(c.Pi(), calc(100).Pi()) || !same(c.Ln2(), calc(100).Ln2()) || !same(c.Num(7), calc(100).Num(7)) {
		t.Error("other answers of a calc that is embedded")
	}
	c.Fail()
	if !isZero(c.Pi()) || !c.Calc.Work.Bad {
		t.Error("the work at the bottom isn't bad")
	}
}
