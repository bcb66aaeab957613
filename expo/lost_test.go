package expo_test

import (
	"fmt"
	"math/big"
	"testing"

	"volvelle/api"
)

// P0.1, P5.1: what is lost on the way is as little as the remarks tell, which is
// far less than what it is taken for.

// checkLost holds the ends of what is worked against what it should hold: from
// low, which nothing is below, to high, which is far less above the lower end
// than the greater one is.
func checkLost(t *testing.T, what string, p int, a api.Span, low, high *big.Float) {
	t.Helper()
	if !isRight(a) || !holds(a, low, high) {
		t.Errorf("%s with %d bits: it isn't held", what, p)
		return
	}
	lower := toFloat(a.Lo)
	lost := float(1<<15).Sub(high, lower)
	if lost.SetMantExp(lost, p+64-18).Cmp(lower) >= 0 {
		t.Errorf("%s with %d bits: more is lost than told", what, p)
	}
	width := float(1<<15).Sub(toFloat(a.Hi), lower)
	if width.SetMantExp(width, p+31).Cmp(lower) > 0 {
		t.Errorf("%s with %d bits: it is wider than told", what, p)
	}
}

func TestLostByPowers(t *testing.T) {
	for part := range 8 {
		t.Run(fmt.Sprint(part), func(t *testing.T) {
			t.Parallel()
			s := &source{uint64(300 + part)}
			for n := range 400 {
				p := 16 + s.below(300)
				if n%40 == 0 {
					p = 7000 - s.below(3000)
				}
				x := s.number(3, 16-s.below(200))
				x.Neg = false
				low, high := functions()[0].bounds(x, p+100)
				checkLost(t, "e to the "+show(x), p, calc(p).Power(x), low, high)
			}
			for top := 16; top > -100; top-- {
				x := number(1, top)
				low, high := functions()[0].bounds(x, 200)
				checkLost(t, "e to the "+show(x), 16+part, calc(16+part).Power(x), low, high)
			}
		})
	}
}

func TestLostBySquares(t *testing.T) {
	s := &source{400}
	for range 400 {
		p := 16 + s.below(600)
		x := s.number(3, -16-s.below(100))
		x.Neg = false
		low, high := functions()[2].bounds(x, p+100)
		checkLost(t, "the cosine of "+show(x), p, calc(p).Squares(x, 0), low, high)
		low, high = functions()[1].bounds(x, p+100)
		low.Quo(low, toFloat(x))
		high.Quo(high, toFloat(x))
		checkLost(t, "the sine over it of "+show(x), p, calc(p).Squares(x, 1), low, high)
	}
}
