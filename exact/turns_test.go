package exact_test

import (
	"math"
	"math/big"
	"testing"

	"volvelle/api"
	"volvelle/exact"
)

// P12.1: of Sin and Cos with y a zero, of Sinh and Cosh with x a zero, the zeros'
// sides hang on the quarter of a turn in which the other number lies.

// piDigits are pi's first hundred.
const piDigits = "3.141592653589793238462643383279502884197169399375105820974944592307816406286208998628034825342117067982"

// quarter answers a quarter of a turn, half of pi.
func quarter() *big.Float {
	pi, _, err := big.ParseFloat(piDigits, 10, 320, big.ToNearestEven)
	if err != nil {
		panic(err)
	}
	return pi.Quo(pi, big.NewFloat(2))
}

// turns answers the signs of the sine and of the cosine of a number that isn't 0,
// by the quarters of a turn that lie below its size.
func turns(b uint64) (sine, cosine bool) {
	size := new(big.Float).SetPrec(320).SetFloat64(math.Float64frombits(b &^ sign))
	whole, _ := size.Quo(size, quarter()).Int64()
	return (whole%4 >= 2) != (b&sign != 0), whole%4 == 1 || whole%4 == 2
}

// zero answers the word of a zero: of sign 1, if just one, or all three, of what
// is told are so.
func zero(l ...bool) uint64 {
	var b uint64
	for _, is := range l {
		if is {
			b ^= sign
		}
	}
	return b
}

// turnsOf compares what is told of a word that isn't a zero's, beside zeros of
// both signs.
func turnsOf(t *testing.T, b uint64) {
	t.Helper()
	sine, cosine := turns(b)
	for _, below := range []bool{false, true} {
		none, side := api.Fact{}, zero(below)
		knows(t, api.Sin, api.Four{b, side}, none, is(zero(below, cosine)))
		knows(t, api.Cos, api.Four{b, side}, none, is(zero(true, sine, below)))
		knows(t, api.Sinh, api.Four{side, b}, is(zero(below, cosine)), none)
		knows(t, api.Cosh, api.Four{side, b}, none, is(zero(below, sine)))
	}
}

// Numbers from each quarter of a turn, with their signs as literal words.
func TestQuarters(t *testing.T) {
	for _, k := range []struct {
		number       float64
		sine, cosine bool
	}{
		{1, false, false}, {2, false, true}, {4, true, true}, {5, true, false}, {7, false, false}, {8, false, true}, {10, true, true}, {12, true, false},
		{-1, true, false}, {-2, true, true}, {-4, false, true}, {-5, false, false}, {-7, true, false}, {-8, true, true}, {-10, false, true}, {-12, false, false},
		{32765, true, true}, {32766, true, false}, {32767, false, false}, {32768, false, false}, {32761.5, false, false}, {32763, false, true},
		{-32765, false, true}, {-32766, false, false}, {-32767, true, false}, {-32768, true, false}, {-32763, true, true},
		{0x1p-1074, false, false}, {-0x1p-1074, true, false}, {0x1p-1022, false, false}, {0x1p-30, false, false}, {-0x1p-30, true, false},
	} {
		b := word(k.number)
		if sine, cosine := turns(b); sine != k.sine || cosine != k.cosine {
			t.Fatalf("signs of %g: %v and %v", k.number, sine, cosine)
		}
		turnsOf(t, b)
	}
}

// isChecked chooses multiples of a quarter of a turn: the first ones, the last
// ones in reach, and some between.
func isChecked(n int) bool {
	return n <= 200 || n >= 20760 || n%29 == 0
}

// Both words about each multiple of a quarter of a turn, as near as words lie to
// where a sine or a cosine is 0.
func TestNextToQuarters(t *testing.T) {
	t.Parallel()
	count := 0
	for n := 1; ; n++ {
		place := new(big.Float).SetPrec(320).SetInt64(int64(n))
		place.Mul(place, quarter())
		low, accuracy := place.Float64()
		if accuracy == big.Above {
			low = math.Nextafter(low, 0)
		}
		high := math.Nextafter(low, math.Inf(1))
		if high > 32768 {
			break
		}
		if !isChecked(n) {
			continue
		}
		count++
		if sine, cosine := turns(word(low)); sine != ((n-1)%4 >= 2) || cosine != (n%4 >= 2) {
			t.Fatalf("%g isn't in quarter %d", low, n-1)
		}
		for _, b := range []uint64{word(low), word(high), word(-low), word(-high)} {
			turnsOf(t, b)
		}
	}
	if count < 1000 {
		t.Errorf("%d multiples", count)
	}
}

// The word that lies nearest to a multiple of a quarter of a turn, of all in
// reach, and the one next to it.
func TestNearestToQuarter(t *testing.T) {
	nearest := nearestToQuarter()
	for _, b := range []uint64{nearest - 1, nearest, nearest + 1} {
		turnsOf(t, b)
		turnsOf(t, b|sign)
	}
}

// nearestToQuarter answers the word above 1 in reach that lies nearest to a
// multiple of a quarter of a turn.
func nearestToQuarter() uint64 {
	var nearest uint64
	least := big.NewFloat(1)
	for n := int64(1); n <= 20860; n++ {
		place := new(big.Float).SetPrec(320).SetInt64(n)
		place.Mul(place, quarter())
		low, _ := place.Float64()
		far := new(big.Float).SetPrec(320).SetFloat64(low)
		if far.Sub(far, place); far.Abs(far).Cmp(least) < 0 {
			least, nearest = far, word(low)
		}
	}
	return nearest
}

// Numbers from all over the reach.
func TestAnyTurns(t *testing.T) {
	t.Parallel()
	s := &source{3}
	for range 400 {
		turnsOf(t, s.word(-70, 15))
		turnsOf(t, s.word(10, 15))
	}
}

// 32768 is the last word that is known; the next one is out of reach.
func TestLastTurns(t *testing.T) {
	for _, b := range []uint64{bound - 1, bound, bound | sign, (bound - 1) | sign} {
		turnsOf(t, b)
	}
	for _, tag := range []int{api.Sin, api.Cos, api.Sinh, api.Cosh} {
		for _, b := range []uint64{bound + 1, (bound + 1) | sign, greatest} {
			for _, z := range []api.Four{{b, 0}, {b, sign}, {0, b}, {sign, b}} {
				if got := exact.Known(tag, z); got != [2]api.Fact{} {
					t.Errorf("%s: %s", showCall(tag, z), show(got))
				}
			}
		}
	}
}
