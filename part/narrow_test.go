package part_test

import (
	"math"
	"math/big"
	"testing"

	"volvelle/api"
	"volvelle/part"
)

// P11.3: how narrow it is with 400 bits and more, of zeros and of words from 2^-20
// to 2^21 in size.

// checkNarrow tells whether both components are 2^(300 - p) times their greater
// ends' sizes wide at most.
func checkNarrow(t *testing.T, p, tag int, z api.Four) {
	t.Helper()
	for i, a := range enclosed(t, p, tag, z) {
		if !isWithin(a, p-300) {
			t.Errorf("%s with %d bits, %d: %s isn't narrow", showCall(tag, z), p, i, showSpan(a))
		}
	}
}

func TestNarrow(t *testing.T) {
	each(t, func(t *testing.T, tag int) {
		s := &source{uint64(600 + tag)}
		for n := range 200 {
			p := 400 + s.below(200)
			switch {
			case n < 20:
				p = 400
			case n%40 == 39:
				p = 6000 - s.below(4000)
			}
			checkNarrow(t, p, tag, s.four(tag))
		}
	})
}

// At the ends of these words, and next to 1 and to what is singular, where the
// most is lost.
func TestNarrowAtEdges(t *testing.T) {
	l := []uint64{
		0, sign, word(0x1p-20), word(-0x1p-20), word(0x1.0000000000001p-20), word(0x1p21), word(-0x1p21), word(0x1.fffffffffffffp20),
		one - 1, one, one + 1, one | sign, (one + 1) | sign, bound, bound - 1, word(0x1p-10),
	}
	each(t, func(t *testing.T, tag int) {
		for i, x := range l {
			for j, y := range l {
				z := api.Four{x, y, y ^ sign, l[(i+3*j)%len(l)]}
				if part.InReach(tag, z) && !part.Singular(tag, z) {
					checkNarrow(t, 400, tag, z)
				}
			}
		}
	})
}

// nearTurns answers words in reach where a sine or a cosine is as near 0 as of any
// words: next to quarters of a turn times whole numbers. All others lie farther
// from these than 2^-53.
func nearTurns(t *testing.T) []uint64 {
	t.Helper()
	var l []uint64
	quarter := far(200).of(halfPi())
	for n := int64(1); ; n++ {
		turn := far(200).mul(quarter, far(64).num(n))
		size, _ := turn.Float64()
		if size > 32768 {
			return l
		}
		off := far(200).sub(turn, new(big.Float).SetFloat64(size))
		if off.MantExp(nil) < -60 {
			t.Errorf("%v is nearer than 2^-61 to a turn", size)
		}
		if n < 5 || off.MantExp(nil) < -51 {
			l = append(l, math.Float64bits(size))
		}
	}
}

// No sine or cosine is so near 0 that it is lost, with as few bits as there may
// be: there the spare bits are needed.
func TestNextToTurns(t *testing.T) {
	t.Parallel()
	l := nearTurns(t)
	if len(l) < 10 {
		t.Fatal(l)
	}
	for _, b := range l {
		for _, tag := range []int{api.Exp, api.Sin, api.Cos, api.Tan, api.Sinh, api.Cosh, api.Tanh} {
			for _, other := range []uint64{0, one, leastSmall} {
				for _, p := range []int{16, 100} {
					checkHeld(t, p, tag, at(b, other), 2700)
					checkHeld(t, p, tag, at(other, b|sign), 2700)
				}
			}
		}
	}
}

// Wherever words lie, and with any bits, it is as narrow as what the layers below
// tell of lone numbers.
func TestNarrowEverywhere(t *testing.T) {
	each(t, func(t *testing.T, tag int) {
		s := &source{uint64(700 + tag)}
		for range 300 {
			z, p := s.anyFour(tag), 16+s.below(300)
			for i, a := range enclosed(t, p, tag, z) {
				if !isWithin(a, p-4) {
					t.Errorf("%s with %d bits, %d: %s isn't narrow", showCall(tag, z), p, i, showSpan(a))
				}
			}
		}
	})
}
