package special_test

import (
	"testing"

	"volvelle/api"
	"volvelle/part"
)

// P13.1 and P0: zeros and false of other tags and of what isn't special; u and v
// change nothing where they play no part.

func TestOtherTags(t *testing.T) {
	for _, tag := range notTags() {
		for _, x := range someWords() {
			for _, y := range someWords() {
				tellsNothing(t, tag, api.Four{x, y, 0, 0})
				tellsNothing(t, tag, api.Four{x, y, y, x})
			}
		}
	}
}

// Numbers out of reach aren't special: of them layer 14 tells.
func TestOutOfReach(t *testing.T) {
	for _, tag := range []int{7, 9, 10, 11, 12, 13, 14} {
		for _, b := range []uint64{bound + 1, word(40000), word(1e300), greatest} {
			for _, side := range []uint64{0, sign} {
				for _, z := range []api.Four{{b | side, 0}, {b | side, sign}, {0, b | side}, {b, b | side, b, b}, {one, b | side}} {
					if part.InReach(tag, z) {
						t.Errorf("%s is in reach", showCall(tag, z))
					}
					tellsNothing(t, tag, z)
				}
				for _, z := range []api.Four{{b | side, plus}, {minus, b | side}} {
					tells(t, tag, z, nan, nan, 8)
				}
				tells(t, tag, api.Four{b | side, nan}, nan, nan, 0)
			}
		}
	}
}

// Numbers of all kinds, where no function is singular.
func TestNumbersAreNotSpecial(t *testing.T) {
	numbers := []uint64{leastSmall, greatestSmall, leastNormal, one - 1, one, one + 1, three, bound, greatest}
	for tag := range 21 {
		for _, x := range numbers {
			for _, y := range numbers {
				for signs := range 4 {
					x, y := x|uint64(signs&1)<<63, y|uint64(signs>>1)<<63
					tellsNothing(t, tag, api.Four{x, y, y, x})
					tellsNothing(t, tag, api.Four{x, y, 0, x})
					tellsNothing(t, tag, api.Four{x, y, y, sign})
					if tag != api.Log {
						tellsNothing(t, tag, api.Four{0, 0, x, y})
					}
				}
			}
		}
	}
}

func TestNumbersAreNotSpecialExample(t *testing.T) {
	tellsNothing(t, api.Sqrt, api.Four{three, word(4)})
	tellsNothing(t, api.Sin, api.Four{sign, 0})
	tellsNothing(t, api.Exp, api.Four{word(1000), 0})
	tellsNothing(t, api.Sin, api.Four{word(40000), 0})
}

// The words u and v change nothing but of Mul and Div, whatever they are.
func TestWordsThatPlayNoPart(t *testing.T) {
	s := &source{2}
	for tag := range 21 {
		if takesTwo(tag) {
			continue
		}
		for _, x := range append(someWords(), three) {
			for _, y := range append(someWords(), three) {
				want := toldOf(tag, api.Four{x, y, one, one})
				for _, w := range [][2]uint64{{0, 0}, {sign, sign}, {plus, minus}, {nan, one}, {one, nan | sign}, {s.word(), s.word()}} {
					same(t, tag, api.Four{x, y, w[0], w[1]}, want)
				}
			}
		}
	}
}

// The words u and v of Mul and Div count as x and y do.
func TestWordsThatCount(t *testing.T) {
	for _, tag := range []int{api.Mul, api.Div} {
		for i := range 4 {
			z := api.Four{one, three, three, one}
			tellsNothing(t, tag, z)
			for _, b := range []uint64{plus, minus} {
				z[i] = b
				tells(t, tag, z, nan, nan, 8)
			}
			for _, b := range noNumbers() {
				z[i] = b
				tells(t, tag, z, nan, nan, 0)
			}
		}
	}
}
