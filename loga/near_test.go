package loga_test

import (
	"fmt"
	"math/big"
	"testing"

	"volvelle/api"
	"volvelle/dyad"
)

// P6.1, of numbers very near 1: what is answered is narrow next to its own
// little size, not next to 1.

// tiny answers bounds of the logarithm of 1 + d, a d below 2^-3 in size, by the
// first terms alone, told exactly: d less d squared over 2 is off by less than
// d's cube in size, upwards if d is above 0.
func tiny(x api.Dyad) (low, high *big.Float) {
	const bits = 4 * api.MaxBits
	d := float(bits).Sub(toFloat(x), float(1).SetInt64(1))
	square := float(bits).Mul(d, d)
	cube := float(bits).Mul(square, d)
	middle := float(bits).Sub(d, square.SetMantExp(square, -1))
	end := float(bits).Add(middle, cube)
	if d.Sign() < 0 {
		return end, middle
	}
	return middle, end
}

func checkTiny(t *testing.T, p int, x api.Dyad) {
	t.Helper()
	got := answered(t, p, point(x))
	low, high := tiny(x)
	if toFloat(got.Lo).Cmp(low) > 0 || toFloat(got.Hi).Cmp(high) < 0 {
		t.Errorf("Log of %s with %d bits isn't in %s", show(x), p, showSpan(got))
	}
	if !isNarrow(got, p) {
		t.Errorf("Log of %s with %d bits is wide: %s", show(x), p, showSpan(got))
	}
}

// Where it is decided whether a number is near, and about where few terms are
// enough.
func TestNear(t *testing.T) {
	for _, p := range []int{16, 53, 200, 1024} {
		t.Run(fmt.Sprint(p), func(t *testing.T) {
			t.Parallel()
			for off := 1; off < 2*p+100; off += 1 + off/20 {
				check(t, p, above(one(), -off))
				check(t, p, below(one(), -off))
			}
			s := &source{uint64(p)}
			depth := calc(p).Depth()
			for top := -depth - 2; top <= -depth+2; top++ {
				for range 5 {
					check(t, p, s.around(3, top))
				}
				check(t, p, above(one(), top))
				check(t, p, below(one(), top))
				check(t, p, below(above(one(), top), top-300))
				check(t, p, above(below(one(), top), top-300))
			}
		})
	}
	for _, off := range []int{40, 48, 49, 50, 60, 1000, 3500} {
		check(t, 7000, above(one(), -off))
		check(t, 7000, below(one(), -off))
	}
}

// So near that the bits of the number are far more than the calc's.
func TestVeryNear(t *testing.T) {
	for _, p := range []int{16, 53, 1000, 7000} {
		for _, off := range []int{8000, 8191, 8192, 10000, 16000, api.MaxBits - 1, api.MaxBits} {
			checkTiny(t, p, below(one(), -off))
			if off < api.MaxBits {
				checkTiny(t, p, above(one(), -off))
			}
		}
	}
	s := &source{7}
	for range 100 {
		checkTiny(t, 16+s.below(7000-16), s.around(8, -4000-s.below(api.MaxBits-4000-8*64)))
	}
}

// P3.1's words hold of what is worked: of numbers very near 1 the sign is told.
func TestSides(t *testing.T) {
	for _, p := range []int{16, 53, 7000} {
		for _, off := range []int{1, 2, 16, 17, 100, 7001, api.MaxBits - 1} {
			over, under := answered(t, p, point(above(one(), -off))), answered(t, p, point(below(one(), -off)))
			low, _ := dyad.Cmp(over.Lo, api.Dyad{})
			high, _ := dyad.Cmp(under.Hi, api.Dyad{})
			if low <= 0 || high >= 0 {
				t.Errorf("next to 1 by 2^-%d with %d bits: %s and %s", off, p, showSpan(over), showSpan(under))
			}
		}
	}
}
