package part_test

import (
	"testing"

	"volvelle/api"
	"volvelle/part"
)

// P11.1: InReach and Singular.

// allWords answers words of numbers of all kinds.
func allWords() []uint64 {
	l := []uint64{0, leastSmall, 2, greatestSmall, leastNormal, leastNormal + 1, one - 1, one, one + 1, word(0.5), word(2), word(32767),
		bound - 1, bound, bound + 1, word(32769), word(65536), word(1e10), greatestNormal - 1, greatestNormal}
	for _, b := range l {
		l = append(l, b|sign)
	}
	return l
}

func TestInReach(t *testing.T) {
	for _, tag := range tags() {
		for _, x := range allWords() {
			for _, y := range allWords() {
				want := !isBounded(tag) || x&^sign <= bound && y&^sign <= bound
				for _, z := range []api.Four{at(x, y), {x, y, 0, 0}, {x, y, greatestNormal, bound + 1}} {
					if got := part.InReach(tag, z); got != want {
						t.Fatalf("InReach, %s: %v", showCall(tag, z), got)
					}
				}
			}
		}
	}
}

// 32768 is in reach, the word behind it isn't, on either side, of seven
// functions: as literal words.
func TestBound(t *testing.T) {
	for _, tag := range []int{7, 9, 10, 11, 12, 13, 14} {
		for _, b := range []uint64{0x40E0000000000000, 0xC0E0000000000000, 0x40DFFFFFFFFFFFFF, 0xC0DFFFFFFFFFFFFF} {
			if !part.InReach(tag, api.Four{b, 0, 0, 0}) || !part.InReach(tag, api.Four{1 << 63, b, 0, 0}) || !part.InReach(tag, api.Four{b, b, b, b}) {
				t.Errorf("%d of %x isn't in reach", tag, b)
			}
		}
		for _, b := range []uint64{0x40E0000000000001, 0xC0E0000000000001, 0x7FEFFFFFFFFFFFFF, 0xFFEFFFFFFFFFFFFF} {
			if part.InReach(tag, api.Four{b, 0, 0, 0}) || part.InReach(tag, api.Four{1 << 63, b, 0, 0}) || part.InReach(tag, api.Four{b, b, b, b}) {
				t.Errorf("%d of %x is in reach", tag, b)
			}
		}
	}
}

// isSingular tells it of words by their bits.
func isSingular(tag int, z api.Four) bool {
	for i, b := range z {
		z[i] = b &^ sign
	}
	switch tag {
	case 5:
		return z[2] == 0 && z[3] == 0
	case 8:
		return z[0] == 0 && z[1] == 0
	case 17:
		return z[0] == 0 && z[1] == one
	case 20:
		return z[0] == one && z[1] == 0
	}
	return false
}

func TestSingular(t *testing.T) {
	count := 0
	for _, tag := range tags() {
		for _, x := range allWords() {
			for _, y := range allWords() {
				for _, z := range []api.Four{{x, y, one, one}, {x, y, 0, 0}, {x, y, 1 << 63, 0}, {x, y, y, x}, {one, one, x, y}, {0, 0, x, y}} {
					got := part.Singular(tag, z)
					if got != isSingular(tag, z) {
						t.Fatalf("Singular, %s: %v", showCall(tag, z), got)
					}
					if got {
						count++
					}
				}
			}
		}
	}
	if count == 0 {
		t.Error("nothing is singular")
	}
}

// Each singular point, with zeros of both signs, and the words next to it.
func TestSingularPoints(t *testing.T) {
	for _, k := range []struct {
		tag    int
		center api.Four
	}{
		{api.Log, api.Four{0, 0, one, one}}, {api.Div, api.Four{one, one, 0, 0}}, {api.Div, api.Four{0, 0, 0, 0}},
		{api.Atan, api.Four{0, one, 0, 0}}, {api.Atanh, api.Four{one, 0, 0, 0}},
	} {
		first := 0
		if k.tag == api.Div {
			first = 2
		}
		for flips := range 4 {
			z := k.center
			z[first] ^= uint64(flips&1) << 63
			z[first+1] ^= uint64(flips>>1) << 63
			if !part.Singular(k.tag, z) || !part.InReach(k.tag, z) {
				t.Errorf("%s isn't singular, or not in reach", showCall(k.tag, z))
			}
			for i := range 2 {
				near := z
				near[first+i]++
				if part.Singular(k.tag, near) {
					t.Errorf("%s is singular", showCall(k.tag, near))
				}
				if near[first+i] -= 2; near[first+i]<<1 != 0 && z[first+i]<<1 != 0 && part.Singular(k.tag, near) {
					t.Errorf("%s is singular", showCall(k.tag, near))
				}
			}
		}
	}
}

// Of other tags, and of words that stand for no numbers, both are false; but of
// u and v, where they play no part, nothing is asked.
func TestNeitherInReachNorSingular(t *testing.T) {
	for _, tag := range notTags() {
		for _, z := range []api.Four{{0, 0, 0, 0}, {one, 0, 0, 0}, {0, one, 0, 0}, {one, one, one, one}} {
			if part.InReach(tag, z) || part.Singular(tag, z) {
				t.Errorf("%s is in reach, or singular", showCall(tag, z))
			}
		}
	}
	for _, tag := range tags() {
		for _, b := range notNumbers() {
			for i := range 4 {
				for _, z := range []api.Four{{0, 0, 0, 0}, {one, 0, 0, 0}, {0, one, 0, 0}, {one, one, one, one}} {
					singular := part.Singular(tag, z)
					z[i] = b
					counts := i < 2 || takesTwo(tag)
					if part.InReach(tag, z) == counts || part.Singular(tag, z) != (singular && !counts) {
						t.Errorf("%s: in reach %v, singular %v", showCall(tag, z), part.InReach(tag, z), part.Singular(tag, z))
					}
				}
			}
		}
	}
}
