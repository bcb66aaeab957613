package exact_test

import (
	"testing"

	"volvelle/api"
	"volvelle/exact"
	"volvelle/part"
)

// P12.1 and P0: nothing is known, and zeros are answered, of other tags, of words
// that stand for no numbers, where it is singular or not in reach.

// corners answers words at which much is known.
func corners() []api.Four {
	var l []api.Four
	for _, x := range []uint64{0, sign, one, one | sign, leastSmall, four} {
		for _, y := range []uint64{0, sign, one, one | sign, leastSmall, four} {
			l = append(l, api.Four{x, y, one, one}, api.Four{x, y, 0, sign})
		}
	}
	return l
}

func TestOtherTags(t *testing.T) {
	for _, tag := range notTags() {
		for _, z := range corners() {
			knows(t, tag, z, api.Fact{}, api.Fact{})
		}
	}
}

// A word that stands for no number leaves nothing known where it counts, and
// changes nothing where it plays no part.
func TestWordsOfNoNumbers(t *testing.T) {
	for _, tag := range tags() {
		for _, z := range corners() {
			before := exact.Known(tag, z)
			for _, b := range notNumbers() {
				for i := range 4 {
					want := [2]api.Fact{}
					if i >= 2 && !takesTwo(tag) {
						want = before
					}
					near := z
					near[i] = b
					knows(t, tag, near, want[0], want[1])
					near = api.Four{b, b, b, b}
					knows(t, tag, near, api.Fact{}, api.Fact{})
				}
			}
		}
	}
}

// The words u and v play no part, whatever they are.
func TestWordsThatPlayNoPart(t *testing.T) {
	s := &source{5}
	for _, tag := range tags() {
		for range 50 {
			z := s.point(tag)
			want := exact.Known(tag, z)
			for _, w := range [][2]uint64{{0, 0}, {sign, 0}, {one, leastSmall}, {greatest, bound + 1}, {s.next(), s.next()}, {api.NaN, infinity}} {
				z[2], z[3] = w[0], w[1]
				knows(t, tag, z, want[0], want[1])
			}
		}
	}
}

// Each singular point, with zeros of both signs; next to it more is known.
func TestSingularPoints(t *testing.T) {
	for signs := range 4 {
		x, y := uint64(signs&1)<<63, uint64(signs>>1)<<63
		for _, k := range []struct {
			tag int
			z   api.Four
		}{
			{api.Log, api.Four{x, y, one, one}}, {api.Atan, api.Four{x, one | y}}, {api.Atanh, api.Four{one | x, y}},
			{api.Div, api.Four{one, one, x, y}}, {api.Div, api.Four{0, 0, x, y}}, {api.Div, api.Four{sign, 0, x, y}},
		} {
			if !part.Singular(k.tag, k.z) {
				t.Errorf("%s isn't singular", showCall(k.tag, k.z))
			}
			knows(t, k.tag, k.z, api.Fact{}, api.Fact{})
		}
		knows(t, api.Atan, api.Four{x, y | (one - 1)}, is(x), api.Fact{})
		knows(t, api.Atan, api.Four{x, y | (one + 1)}, api.Fact{}, api.Fact{})
		knows(t, api.Atanh, api.Four{x | (one - 1), y}, api.Fact{}, is(y))
		knows(t, api.Atanh, api.Four{x | (one + 1), y}, api.Fact{}, api.Fact{})
		knows(t, api.Log, api.Four{leastSmall, y}, api.Fact{}, is(y))
		knows(t, api.Log, api.Four{leastSmall | sign, y}, api.Fact{}, api.Fact{})
	}
}

// At 32768 and below it is known what the table tells, behind it nothing is, in
// either place and on either side; of functions that aren't bounded it is, still.
func TestBound(t *testing.T) {
	for _, tag := range tags() {
		for _, b := range []uint64{bound - 1, bound, bound + 1, word(40000), greatest} {
			for signs := range 4 {
				b, side := b|uint64(signs&1)<<63, uint64(signs>>1)<<63
				for i, z := range []api.Four{{b, side, one, one}, {side, b, one, one}} {
					got := exact.Known(tag, z)
					isOut := isBounded(tag) && b&^sign > bound
					if isOut && got != [2]api.Fact{} {
						t.Errorf("%s: %s", showCall(tag, z), show(got))
					}
					if !isOut && (got[0].Is || got[1].Is) != isKnownAt(tag, i, z) {
						t.Errorf("%s: %s", showCall(tag, z), show(got))
					}
				}
				for _, z := range []api.Four{{b, b}, {b, one}, {one, b}} {
					if isBounded(tag) {
						knows(t, tag, z, api.Fact{}, api.Fact{})
					}
				}
			}
		}
	}
}

// isKnownAt tells whether either component is known at a great number along the
// axis of x (0) or of y (1).
func isKnownAt(tag, axis int, z api.Four) bool {
	isLeft := z[0]&sign != 0
	switch tag {
	case api.Mul, api.Div:
		return false
	case api.Exp:
		return axis == 0
	case api.Log, api.Acosh, api.Acos:
		return axis == 0 && !isLeft
	case api.Sqrt:
		return axis == 0
	case api.Asin:
		return axis == 1
	case api.Atan, api.Asinh:
		return axis == 0
	case api.Atanh:
		return axis == 1
	}
	return true
}

// P0: whatever is handed in, what is answered is a word that is known, or zeros.
func TestAnythingEnds(t *testing.T) {
	s := &source{6}
	for range 20000 {
		tag := s.below(25) - 2
		var z api.Four
		for i := range z {
			switch s.below(3) {
			case 0:
				z[i] = s.next()
			case 1:
				z[i] = notNumbers()[s.below(10)]
			default:
				z[i] = s.near(tag)
			}
		}
		got := exact.Known(tag, z)
		if isGood := part.InReach(tag, z) && !part.Singular(tag, z); !isGood && got != [2]api.Fact{} {
			t.Fatalf("%s: %s", showCall(tag, z), show(got))
		}
		for i, f := range got {
			isOwn := (tag == api.Conj || tag == api.Proj) && f.Word&^sign == z[i]&^sign
			if !f.Is && f.Word != 0 || f.Is && !isZero(f.Word) && f.Word != one && !isOwn {
				t.Fatalf("%s: %s", showCall(tag, z), show(got))
			}
		}
	}
}
