package special_test

import (
	"testing"

	"volvelle/api"
)

// P13.1: the line that comes first is the one that applies, and each line with
// literal words.

const (
	plus  uint64 = 0x7FF0000000000000
	minus uint64 = 0xFFF0000000000000
	nan   uint64 = 0x7FF8000000000000
)

// The chapter's example: both infinities, though x is no number.
func TestExample(t *testing.T) {
	for _, none := range noNumbers() {
		tells(t, api.Sqrt, api.Four{none, plus}, plus, plus, 0)
		tells(t, api.Sqrt, api.Four{none, minus}, plus, minus, 0)
	}
}

// What is told beside what is no number: of some functions an infinity is enough.
func TestFirstLineApplies(t *testing.T) {
	for _, none := range noNumbers() {
		side := none & sign
		tells(t, 0, api.Four{plus, none}, plus, 0, 0)
		tells(t, 0, api.Four{minus, none}, plus, 0, 0)
		tells(t, 0, api.Four{none, minus}, plus, 0, 0)
		tells(t, 0, api.Four{none, one}, nan, nan, 0)
		tells(t, 0, api.Four{0, none}, nan, nan, 0)
		tells(t, 1, api.Four{plus, none}, nan, nan, 0)
		tells(t, 1, api.Four{none, minus}, nan, nan, 0)
		tells(t, 2, api.Four{minus, none}, minus, nan, 0)
		tells(t, 2, api.Four{none, minus}, nan, plus, 0)
		tells(t, 2, api.Four{none, sign}, nan, 0, 0)
		tells(t, 2, api.Four{sign, none}, sign, nan, 0)
		tells(t, 3, api.Four{minus, none}, plus, side, 0)
		tells(t, 3, api.Four{none, minus}, plus, sign, 0)
		tells(t, 3, api.Four{none, plus}, plus, 0, 0)
		tells(t, 3, api.Four{none, sign}, nan, sign, 0)
		tells(t, 3, api.Four{greatest, none}, greatest, nan, 0)
		tells(t, 6, api.Four{plus, none}, nan, nan, 0)
		tells(t, 6, api.Four{minus, none}, nan, nan, 0)
		tells(t, 7, api.Four{plus, none}, nan, nan, 0)
		tells(t, 7, api.Four{minus, none}, nan, nan, 0)
		tells(t, 7, api.Four{none, 0}, nan, nan, 0)
		tells(t, 8, api.Four{plus, none}, nan, nan, 0)
		tells(t, 8, api.Four{none, plus}, nan, nan, 0)
		tells(t, 8, api.Four{none, 0}, nan, nan, 0)
		tells(t, 17, api.Four{none, one}, nan, nan, 0)
		tells(t, 20, api.Four{one, none}, nan, nan, 0)
	}
}

// An infinity of y comes first of Sqrt, and makes Exp Invalid, whatever x is.
func TestInfiniteBoth(t *testing.T) {
	for _, x := range []uint64{plus, minus} {
		tells(t, 6, api.Four{x, plus}, plus, plus, 0)
		tells(t, 6, api.Four{x, minus}, plus, minus, 0)
		for _, y := range []uint64{plus, minus, one, one | sign, leastSmall, leastSmall | sign, greatest} {
			tells(t, 7, api.Four{x, y}, nan, nan, 8)
		}
		tells(t, 3, api.Four{x, plus}, plus, 0, 0)
		tells(t, 3, api.Four{x, minus}, plus, sign, 0)
		tells(t, 2, api.Four{x, minus}, x, plus, 0)
		tells(t, 2, api.Four{x, plus}, x, minus, 0)
		tells(t, 0, api.Four{x, minus}, plus, 0, 0)
	}
	tells(t, 7, api.Four{plus, 0}, plus, 0, 0)
	tells(t, 7, api.Four{plus, sign}, plus, sign, 0)
	tells(t, 7, api.Four{minus, 0}, 0, 0, 0)
	tells(t, 7, api.Four{minus, sign}, 0, sign, 0)
	tells(t, 6, api.Four{plus, leastSmall}, plus, 0, 0)
	tells(t, 6, api.Four{plus, sign}, plus, sign, 0)
	tells(t, 6, api.Four{minus, greatest}, 0, plus, 0)
	tells(t, 6, api.Four{minus, sign}, 0, minus, 0)
}

// Log and the arctangents where they are singular, with zeros of all signs: an
// angle of pi beside a pole is Inexact, too.
func TestSingularPoints(t *testing.T) {
	tells(t, 8, api.Four{0, 0}, minus, 0, 16)
	tells(t, 8, api.Four{0, sign}, minus, sign, 16)
	tells(t, 8, api.Four{sign, 0}, minus, 0x400921FB54442D18, 17)
	tells(t, 8, api.Four{sign, sign}, minus, 0xC00921FB54442D18, 17)
	for _, side := range []uint64{0, sign} {
		tells(t, 17, api.Four{side, 0x3FF0000000000000}, side, plus, 16)
		tells(t, 17, api.Four{side, 0xBFF0000000000000}, side, minus, 16)
		tells(t, 20, api.Four{0x3FF0000000000000, side}, plus, side, 16)
		tells(t, 20, api.Four{0xBFF0000000000000, side}, minus, side, 16)
	}
}

// Next to the singular points, and where other functions have one, it isn't
// special.
func TestNextToSingularPoints(t *testing.T) {
	for _, side := range []uint64{0, sign} {
		for _, b := range []uint64{one - 1, one + 1, (one - 1) | sign, (one + 1) | sign, 0, sign} {
			tellsNothing(t, api.Atan, api.Four{side, b})
			tellsNothing(t, api.Atanh, api.Four{b, side})
		}
		for _, b := range []uint64{one, one | sign} {
			tellsNothing(t, api.Atan, api.Four{side | leastSmall, b})
			tellsNothing(t, api.Atan, api.Four{b, side})
			tellsNothing(t, api.Atanh, api.Four{b, side | leastSmall})
			tellsNothing(t, api.Atanh, api.Four{side, b})
		}
		tellsNothing(t, api.Log, api.Four{side | leastSmall, 0})
		tellsNothing(t, api.Log, api.Four{side, leastSmall})
		for _, tag := range []int{0, 1, 2, 3, 4, 6, 7, 9, 10, 11, 12, 13, 14, 15, 16, 17, 18, 19, 20} {
			tellsNothing(t, tag, api.Four{side, sign, side, 0})
		}
	}
}

// Invalid is told of an infinity of all functions without a line of their own.
func TestInvalid(t *testing.T) {
	for _, tag := range []int{4, 5, 9, 10, 11, 12, 13, 14, 15, 16, 17, 18, 19, 20} {
		for _, b := range []uint64{plus, minus} {
			for _, other := range []uint64{0, sign, one, leastSmall, greatest | sign, plus, minus} {
				tells(t, tag, api.Four{b, other, one, one}, nan, nan, 8)
				tells(t, tag, api.Four{other, b, one, one}, nan, nan, 8)
			}
			for _, none := range noNumbers() {
				tells(t, tag, api.Four{b, none, one, one}, nan, nan, 0)
				tells(t, tag, api.Four{none, b, one, one}, nan, nan, 0)
			}
		}
	}
	for _, none := range noNumbers() {
		for i := range 4 {
			for _, tag := range []int{4, 5} {
				z := api.Four{one, one, one, one}
				z[i] = none
				tells(t, tag, z, nan, nan, 0)
				z[(i+1)%4] = plus
				tells(t, tag, z, nan, nan, 0)
			}
		}
	}
}
