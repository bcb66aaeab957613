package special_test

import (
	"math"
	"math/big"
	"testing"

	"volvelle/api"
	"volvelle/arc"
	"volvelle/part"
	"volvelle/round"
)

// P13.1: the angle words of each quarter, of Arg and of Log.

// angle: the word of an angle at a point, and another point of the same angle
// that has numbers alone (of the axis of x to the right the angle is a zero).
type angle struct {
	x, y  uint64
	word  uint64
	flags int
	near  [2]float64
}

// angles answers those of infinities in each quarter and along each axis, of y
// above 0 or a zero of sign 0, as literal words.
func angles() []angle {
	const quarter, half, threeQuarters, whole = 0x3FE921FB54442D18, 0x3FF921FB54442D18, 0x4002D97C7F3321D2, 0x400921FB54442D18
	l := []angle{{plus, plus, quarter, 1, [2]float64{1, 1}}, {minus, plus, threeQuarters, 1, [2]float64{-1, 1}}}
	for _, b := range []uint64{0, leastSmall, one, greatest} {
		l = append(l,
			angle{b, plus, half, 1, [2]float64{0, 1}}, angle{b | sign, plus, half, 1, [2]float64{0, 1}},
			angle{plus, b, 0, 0, [2]float64{1, 0}}, angle{minus, b, whole, 1, [2]float64{-1, 0}})
	}
	return l
}

func TestAngles(t *testing.T) {
	for _, a := range angles() {
		tells(t, 1, api.Four{a.x, a.y}, a.word, 0, a.flags)
		tells(t, 1, api.Four{a.x, a.y | sign}, a.word|sign, 0, a.flags)
		tells(t, 8, api.Four{a.x, a.y}, plus, a.word, a.flags)
		tells(t, 8, api.Four{a.x, a.y | sign}, plus, a.word|sign, a.flags)
	}
}

// An angle word is the one to which what is enclosed at a point with the same
// angle is rounded, and Inexact.
func TestAnglesAreRounded(t *testing.T) {
	for _, a := range angles() {
		if a.flags == 0 {
			continue
		}
		for _, side := range []uint64{0, sign} {
			c := &arc.Calc{}
			c.P = 200
			near := part.Enclose(c, api.Arg, api.Four{word(a.near[0]), word(a.near[1]) | side})
			want, flags, ok := round.Among(near[0], api.Even)
			if c.Bad || !ok {
				t.Fatal("no word of an angle")
			}
			tells(t, api.Arg, api.Four{a.x, a.y | side}, want, 0, flags)
		}
	}
}

// The four angle words are the nearest to parts of pi, by its digits.
func TestAnglesOfPi(t *testing.T) {
	pi, _, err := big.ParseFloat("3.141592653589793238462643383279502884197169399375105820974944592307816406286208998628034825342117067982", 10, 320, big.ToNearestEven)
	if err != nil {
		t.Fatal(err)
	}
	for _, k := range []struct {
		x, y     uint64
		quarters int64
	}{{plus, plus, 1}, {one, plus, 2}, {minus, plus, 3}, {minus, one, 4}} {
		size := new(big.Float).Mul(pi, big.NewFloat(float64(k.quarters)/4))
		nearest, _ := size.Float64()
		tells(t, api.Arg, api.Four{k.x, k.y}, math.Float64bits(nearest), 0, api.Inexact)
	}
}

// The library's angles and distances are the same, where one is told of numbers
// and infinities.
func TestAsTheLibrary(t *testing.T) {
	s := &source{1}
	count := 0
	for range 20000 {
		z := s.four()
		if counts(api.Arg, z, isInfinite) == 0 || counts(api.Arg, z, isNotOne) > 0 {
			continue
		}
		count++
		x, y := math.Float64frombits(z[0]), math.Float64frombits(z[1])
		want := math.Float64bits(math.Atan2(y, x))
		flags := api.Inexact
		if isZero(want) {
			flags = 0
		}
		tells(t, api.Arg, z, want, 0, flags)
		tells(t, api.Log, z, plus, want, flags)
		tells(t, api.Abs, z, math.Float64bits(math.Hypot(x, y)), 0, 0)
	}
	if count < 1000 {
		t.Errorf("%d points", count)
	}
}
