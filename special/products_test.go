package special_test

import (
	"testing"

	"volvelle/api"
)

// P13.1: Mul and Div, of which four words count.

// someWords answers words of each sort.
func someWords() []uint64 {
	l := []uint64{0, one, leastSmall, greatest, infinity, api.NaN, infinity + 1}
	for _, b := range l {
		l = append(l, b|sign)
	}
	return l
}

// fours calls what it is given with some words in each of the four places.
func fours(do func(z api.Four)) {
	l := someWords()
	for _, x := range l {
		for _, y := range l {
			for _, u := range l {
				for _, v := range l {
					do(api.Four{x, y, u, v})
				}
			}
		}
	}
}

// Of a product an infinity in any place is Invalid, where all others are numbers
// or infinities, too; of numbers it isn't special.
func TestProducts(t *testing.T) {
	fours(func(z api.Four) {
		switch {
		case counts(api.Mul, z, isNotOne) > 0:
			tells(t, api.Mul, z, api.NaN, api.NaN, 0)
		case counts(api.Mul, z, isInfinite) > 0:
			tells(t, api.Mul, z, api.NaN, api.NaN, api.Invalid)
		default:
			tellsNothing(t, api.Mul, z)
		}
	})
}

// over answers a number's word over a zero of a sign: the sign of an infinity is
// 1, where just one of the two signs is.
func over(b, zero uint64) uint64 {
	switch {
	case isZero(b):
		return 0x7FF8000000000000
	case b&sign == zero&sign:
		return 0x7FF0000000000000
	}
	return 0xFFF0000000000000
}

func TestQuotients(t *testing.T) {
	fours(func(z api.Four) {
		switch {
		case counts(api.Div, z, isNotOne) > 0:
			tells(t, api.Div, z, api.NaN, api.NaN, 0)
		case counts(api.Div, z, isInfinite) > 0:
			tells(t, api.Div, z, api.NaN, api.NaN, api.Invalid)
		case !isZero(z[2]) || !isZero(z[3]):
			tellsNothing(t, api.Div, z)
		case isZero(z[0]) && isZero(z[1]):
			tells(t, api.Div, z, api.NaN, api.NaN, api.Invalid)
		default:
			tells(t, api.Div, z, over(z[0], z[2]), over(z[1], z[2]), api.DivZero)
		}
	})
}

// Numbers over 0, as literal words.
func TestNumbersOverZero(t *testing.T) {
	const plus, minus, nan uint64 = 0x7FF0000000000000, 0xFFF0000000000000, 0x7FF8000000000000
	for _, v := range []uint64{0, sign} {
		tells(t, 5, api.Four{one, three, 0, v}, plus, plus, 16)
		tells(t, 5, api.Four{one, three, sign, v}, minus, minus, 16)
		tells(t, 5, api.Four{one | sign, three, 0, v}, minus, plus, 16)
		tells(t, 5, api.Four{one | sign, three, sign, v}, plus, minus, 16)
		tells(t, 5, api.Four{0, leastSmall, 0, v}, nan, plus, 16)
		tells(t, 5, api.Four{sign, leastSmall, sign, v}, nan, minus, 16)
		tells(t, 5, api.Four{greatest | sign, 0, 0, v}, minus, nan, 16)
		tells(t, 5, api.Four{greatest | sign, sign, sign, v}, plus, nan, 16)
		for signs := range 4 {
			x, y := uint64(signs&1)<<63, uint64(signs>>1)<<63
			tells(t, 5, api.Four{x, y, 0, v}, nan, nan, 8)
			tells(t, 5, api.Four{x, y, sign, v}, nan, nan, 8)
		}
	}
	tellsNothing(t, 5, api.Four{one, three, leastSmall, 0})
	tellsNothing(t, 5, api.Four{one, three, 0, leastSmall | sign})
	tellsNothing(t, 5, api.Four{0, 0, one, 0})
}

// Both infinities and zeros below: no number is divided, so that it is no pole.
func TestInfinitiesOverZero(t *testing.T) {
	for _, z := range []api.Four{{infinity, one, 0, 0}, {one, infinity | sign, sign, 0}, {infinity, 0, 0, sign}, {infinity, infinity, 0, 0}, {0, 0, infinity, 0}} {
		tells(t, api.Div, z, api.NaN, api.NaN, api.Invalid)
	}
	for _, z := range []api.Four{{api.NaN, one, 0, 0}, {one, api.NaN | sign, 0, 0}, {infinity, infinity + 1, 0, 0}, {0, 0, 0, api.NaN}, {one, one, api.NaN, 0}} {
		tells(t, api.Div, z, api.NaN, api.NaN, 0)
	}
}
