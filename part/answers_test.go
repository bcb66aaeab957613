package part_test

import (
	"fmt"
	"math"
	"testing"

	"volvelle/api"
	"volvelle/part"
)

// P11.1: what is enclosed has the components, as the table's expressions tell
// them.

// signs answers a word with both signs.
func signs(b uint64) []uint64 {
	return []uint64{b &^ sign, b | sign}
}

// each runs a test of each function beside the others.
func each(t *testing.T, test func(t *testing.T, tag int)) {
	t.Parallel()
	for _, tag := range tags() {
		t.Run(fmt.Sprint(tag), func(t *testing.T) {
			t.Parallel()
			test(t, tag)
		})
	}
}

// checkQuadrants holds a function in all quadrants, with zeros of both signs.
func checkQuadrants(t *testing.T, p, tag int, z api.Four, more int) {
	t.Helper()
	for _, x := range signs(z[0]) {
		for _, y := range signs(z[1]) {
			z := api.Four{x, y, z[2], z[3]}
			if part.InReach(tag, z) && !part.Singular(tag, z) {
				checkHeld(t, p, tag, z, more)
			}
		}
	}
}

func TestQuadrantsAndAxes(t *testing.T) {
	each(t, func(t *testing.T, tag int) {
		s := &source{uint64(tag)}
		for n := range 60 {
			z := s.four(tag)
			if n < 10 {
				z[n%2] = 0
			}
			checkQuadrants(t, []int{16, 17, 53, 64, 200, 512}[n%6], tag, z, 700)
		}
	})
}

// round answers words next to a word, on either side, and a bit farther away.
func around(b uint64) []uint64 {
	return []uint64{b - 3, b - 1, b, b + 1, b + 4}
}

// Next to 1 and to 0 differences lose the most.
func TestNextToOne(t *testing.T) {
	each(t, func(t *testing.T, tag int) {
		s := &source{uint64(100 + tag)}
		for _, near := range around(one) {
			for _, other := range []uint64{0, one, one - 1, one + 1, word(0x1p-20), word(0x1p-60), s.word(-20, 21)} {
				z := at(near, other)
				z[2], z[3] = near+1, other
				checkQuadrants(t, 16+s.below(80), tag, z, 700)
				z[0], z[1] = other, near
				checkQuadrants(t, 16+s.below(80), tag, z, 700)
			}
		}
	})
}

// The least Small and the greatest number, next to each other and to numbers of
// any size: as much as may be is lost.
func TestFarWords(t *testing.T) {
	l := []uint64{0, leastSmall, word(0x1.8p-538), one, word(3), word(0x1p-30), greatestNormal}
	each(t, func(t *testing.T, tag int) {
		for i, x := range l {
			for j, y := range l {
				z := api.Four{x ^ sign*uint64(i&1), y ^ sign*uint64(j&1), y, x ^ sign}
				if part.InReach(tag, z) && !part.Singular(tag, z) {
					checkHeld(t, []int{16, 53, 130}[(i+j)%3], tag, z, 7000)
				}
			}
		}
	})
}

// Words of any size, Small ones, too.
func TestAnyWords(t *testing.T) {
	each(t, func(t *testing.T, tag int) {
		s := &source{uint64(200 + tag)}
		for range 12 {
			high := 1024
			if isBounded(tag) {
				high = 15
			}
			z := api.Four{s.word(-1022, high), s.word(-1022, high), s.word(-1022, 1024), s.word(-1022, 1024)}
			if s.below(3) == 0 {
				z[s.below(4)] &= greatestSmall | sign
			}
			if !part.Singular(tag, z) {
				checkHeld(t, 16+s.below(60), tag, z, 7000)
			}
		}
	})
}

// At the ends of what is in reach, and where sines and cosines are next to 0.
func TestAtBounds(t *testing.T) {
	each(t, func(t *testing.T, tag int) {
		if !isBounded(tag) {
			return
		}
		l := []uint64{bound, bound - 1, word(32767.5), word(math.Pi / 2), word(math.Pi), word(20000 * math.Pi / 2), 0, word(0x1p-70)}
		for i, x := range l {
			for j, y := range l {
				checkQuadrants(t, []int{16, 53, 128}[(i+j)%3], tag, at(x, y), 700)
			}
		}
	})
}

// With many bits, up to the most.
func TestManyBits(t *testing.T) {
	each(t, func(t *testing.T, tag int) {
		for _, z := range []api.Four{words(1.5, -0.75), words(-3, 0x1p-20), words(0x1.fffffffffffffp-1, 0), words(0, 1.25)} {
			for _, p := range []int{1000, 4096, 6000} {
				checkHeld(t, p, tag, z, 700)
			}
		}
	})
}
