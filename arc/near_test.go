package arc_test

import (
	"fmt"
	"testing"

	"volvelle/api"
)

// P8.1, of numbers very near 0, very near 1 and -1, and very great ones; of
// points very near the axes, and of such whose parts lie far apart in size.

// steps answers tops that get farther apart, down to the last one.
func steps(last int) []int {
	var l []int
	for top := -1; top > last; top -= 1 - top/3 {
		l = append(l, top)
	}
	return append(l, last)
}

func TestNumbersNearZero(t *testing.T) {
	t.Parallel()
	for _, p := range []int{16, 53, 200} {
		for _, top := range steps(-6000) {
			checkNumber(t, p, number(1, top))
			checkNumber(t, p, number(3, top))
			checkNumber(t, p, number(0x1FFFFFFFFFFFFF, top-53))
		}
	}
	checkNumber(t, 16, number(5, -20000))
	checkNumber(t, 53, least())
	checkNumber(t, 53, number(0x7FFFFFFFFFFFFFFF, -20000))
	checkNumber(t, 7000, number(3, -200))
	checkNumber(t, 7000, number(3, -4000))
}

// Where it is decided how often an angle is halved, and how many terms there
// are.
func TestWhereHalvesBegin(t *testing.T) {
	t.Parallel()
	for _, p := range []int{16, 17, 53, 200, 1000} {
		depth := calc(p).Finer().Depth()
		for top := -depth - 3; top <= -depth+3; top++ {
			x := number(1, top)
			for _, x := range []api.Dyad{x, below(x, top-p-40), above(x, top-p-40), below(x, top-200), above(x, top-200)} {
				checkNumber(t, p, x)
				checkPoint(t, p, one(), x)
			}
		}
		for top := -p/2 - 24; top <= -p/2+4; top += 2 {
			checkNumber(t, p, number(1, top))
			checkNumber(t, p, below(number(1, top), top-200))
		}
		for top := -p - 40; top <= -p-24; top += 2 {
			checkNumber(t, p, number(1, top))
		}
	}
}

func TestNumbersNearOne(t *testing.T) {
	t.Parallel()
	for _, p := range []int{16, 53, 300} {
		for _, top := range append(steps(-api.MaxBits+1), -p, -p-1, -p-31, -p-32, -p-33) {
			checkNumber(t, p, above(one(), top))
			checkNumber(t, p, below(one(), top))
		}
	}
	checkNumber(t, 7000, above(one(), -7030))
	checkNumber(t, 7000, below(one(), -100))
}

// Very great ones, whose arctangent is nearly a quarter of a turn.
func TestGreatNumbers(t *testing.T) {
	t.Parallel()
	for _, p := range []int{16, 53, 300} {
		for _, top := range append(steps(-20000), -p, -p-32, -p-33) {
			checkNumber(t, p, number(1, -top))
			checkNumber(t, p, number(0x7FFFFFFFFFFFFF, min(-top, 19900)))
		}
	}
	for _, top := range []int{20000, 7032, 3500, 40} {
		checkNumber(t, 7000, number(1, top))
	}
}

// On either side, to the right and to the left.
func TestPointsNearTheAxisOfX(t *testing.T) {
	t.Parallel()
	for _, p := range []int{16, 53, 300} {
		t.Run(fmt.Sprint(p), func(t *testing.T) {
			t.Parallel()
			for _, top := range append(steps(-6000), -p, -p-32, -p-33) {
				for _, x := range []api.Dyad{one(), number(3, 0), number(0x1FFFFFFFFFFFFF, -60)} {
					checkPoint(t, p, number(1, top), x)
					checkPoint(t, p, number(0x1FFFFFFFFFFFFF, top-53), x)
				}
			}
			checkPoint(t, p, least(), number(5, 0))
		})
	}
	checkPoint(t, 7000, number(3, -100), number(5, 0))
}

// To either side, above and below.
func TestPointsNearTheAxisOfY(t *testing.T) {
	t.Parallel()
	for _, p := range []int{16, 53, 300} {
		t.Run(fmt.Sprint(p), func(t *testing.T) {
			t.Parallel()
			for _, top := range append(steps(-20000), -p, -p-32, -p-33) {
				for _, y := range []api.Dyad{one(), number(3, 0), number(0x1FFFFFFFFFFFFF, -60)} {
					checkPoint(t, p, y, number(1, top))
					checkPoint(t, p, y, number(0x1FFFFFFFFFFFFF, max(top, -19900)-53))
				}
			}
		})
	}
	checkPoint(t, 7000, number(5, 0), number(3, -100))
	checkPoint(t, 7000, number(5, 0), least())
}

// As far apart as parts in reach are: the angle is nearly 2^-40000, or as near to
// half a turn, or to a quarter.
func TestPartsFarApart(t *testing.T) {
	t.Parallel()
	for i, p := range []int{16, 100, 7000} {
		t.Run(fmt.Sprint(p), func(t *testing.T) {
			t.Parallel()
			checkPoint(t, p, most(), least())
			checkPoint(t, p, number(3, 19990), number(7, -19990))
			if i == 2 {
				// One side is enough, as these take long.
				got := angles(t, p, point(number(-3, -19990)), point(number(7, 19990)))
				low, high := bounds(number(-3, -19990), number(7, 19990), p)
				if !holds(got, low, high) || !isNarrow(got, p) {
					t.Errorf("with %d bits: %s", p, showSpan(got))
				}
				return
			}
			checkPoint(t, p, least(), most())
			checkPoint(t, p, number(0x1FFFFFFFFFFFFF, -20000), number(1, 19000))
		})
	}
}

// Like parts of any size: the angle hangs on how they are to each other alone.
func TestLikeParts(t *testing.T) {
	t.Parallel()
	s := &source{17}
	for _, top := range []int{20000, 19999, 5000, 64, -64, -5000, -19990} {
		for _, p := range []int{16, 53, 300} {
			checkPoint(t, p, number(1, top), number(1, top))
			checkPoint(t, p, number(1, top), number(1, top-1))
			y, x := s.number(3, top), s.number(3, top)
			checkPoint(t, p, y, x)
			low := angles(t, p, point(y), point(x))
			y.E, x.E = y.E-top, x.E-top
			if !meet(low, angles(t, p, point(y), point(x))) {
				t.Errorf("of %s and %s with %d bits: another angle 2^%d times farther off", show(y), show(x), p, top)
			}
		}
	}
}
