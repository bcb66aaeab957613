package part_test

import (
	"math"
	"testing"

	"volvelle/api"
	"volvelle/arc"
	"volvelle/part"
)

// P11.1, P0, R2 and R3: other tags, words that stand for no numbers, what is
// singular or not in reach, calcs that are nil, bad, or of a P that isn't right.

func wrongBits() []int {
	return []int{
		15, 6001, 0, 1, 2, 14, -1, -15, -16, -6000, 6002, 6500, 7000, 7001, api.MaxPrec, api.MaxPrec + 1, 1 << 20,
		math.MaxInt, math.MaxInt - 128, math.MinInt, math.MinInt + 128,
	}
}

// good answers words at which all functions are told.
func good() []api.Four {
	return []api.Four{words(0.5, 0.25), words(-3, 1), words(2, -1), {one, one, one, one}}
}

// refused tells whether a call is refused: the calc is bad, and has its bits;
// and stays bad, even with right bits, so that its own calls answer nothing, too.
func refused(c *arc.Calc, tag int, z api.Four) bool {
	p := c.P
	if !isNone(part.Enclose(c, tag, z)) || !c.Bad || c.P != p {
		return false
	}
	for tag := range 21 {
		if !isNone(part.Enclose(c, tag, good()[tag%4])) || !c.Bad || c.P != p {
			return false
		}
	}
	c.P = 60
	number := c.Num(1)
	return isNone(part.Enclose(c, api.Mul, good()[0])) && same(number, api.Span{}) && same(c.Pi(), api.Span{}) && c.Bad
}

func TestGoodCallsAreNotRefused(t *testing.T) {
	for _, tag := range tags() {
		for _, z := range good() {
			for _, p := range []int{16, 17, 5999, 6000} {
				if isNone(enclosed(t, p, tag, z)) {
					t.Errorf("%s with %d bits: zeros", showCall(tag, z), p)
				}
			}
		}
	}
}

func TestOtherTags(t *testing.T) {
	for _, tag := range notTags() {
		for _, z := range append(good(), api.Four{}) {
			for _, p := range []int{16, 53, 6000} {
				if !refused(calc(p), tag, z) {
					t.Errorf("%s with %d bits isn't refused", showCall(tag, z), p)
				}
			}
		}
	}
}

func TestWordsOfNoNumbers(t *testing.T) {
	for _, tag := range tags() {
		for _, b := range notNumbers() {
			for i := range 4 {
				for _, z := range append(good(), api.Four{one, one, one, one}) {
					z[i] = b
					if i >= 2 && !takesTwo(tag) {
						enclosed(t, 53, tag, z)
					} else if !refused(calc(53), tag, z) {
						t.Errorf("%s isn't refused", showCall(tag, z))
					}
				}
			}
		}
	}
}

func TestSingularIsRefused(t *testing.T) {
	for _, tag := range tags() {
		count := 0
		for _, x := range []uint64{0, sign, one, one | sign} {
			for _, y := range []uint64{0, sign, one, one | sign} {
				for _, w := range [][2]uint64{{0, 0}, {0, sign}, {sign, 0}, {sign, sign}, {one, 0}, {0, leastSmall}} {
					z := api.Four{x, y, w[0], w[1]}
					if !part.Singular(tag, z) {
						enclosed(t, 53, tag, z)
						continue
					}
					count++
					for _, p := range []int{16, 53, 6000} {
						if !refused(calc(p), tag, z) {
							t.Errorf("%s with %d bits isn't refused", showCall(tag, z), p)
						}
					}
				}
			}
		}
		if want := map[int]int{api.Log: 24, api.Div: 64, api.Atan: 24, api.Atanh: 24}[tag]; count != want {
			t.Errorf("%d is singular at %d of these, not at %d", tag, count, want)
		}
	}
}

func TestNotInReachIsRefused(t *testing.T) {
	for _, tag := range tags() {
		for _, b := range []uint64{bound + 1, word(40000), word(65536), word(65537), word(1e9), greatestNormal} {
			for _, b := range signs(b) {
				for _, other := range []uint64{0, sign, one, bound, b, leastSmall} {
					for _, z := range []api.Four{at(b, other), at(other, b)} {
						if !isBounded(tag) {
							enclosed(t, 53, tag, z)
						} else if !refused(calc(53), tag, z) {
							t.Errorf("%s isn't refused", showCall(tag, z))
						}
					}
				}
			}
		}
	}
}

func TestBitsThatAreNotRight(t *testing.T) {
	for _, p := range wrongBits() {
		for _, tag := range append(tags(), 21, -1) {
			for _, z := range append(good(), api.Four{}) {
				if !refused(calc(p), tag, z) {
					t.Errorf("%s with %d bits isn't refused", showCall(tag, z), p)
				}
			}
		}
	}
}

func TestBadCalc(t *testing.T) {
	for _, p := range append(wrongBits(), 16, 53, 6000) {
		for _, tag := range append(tags(), 21, -1) {
			c := calc(p)
			c.Bad = true
			if !refused(c, tag, good()[0]) {
				t.Errorf("a bad calc of %d bits answers %d", p, tag)
			}
		}
	}
	for i, spoil := range []func(c *arc.Calc){
		func(c *arc.Calc) { c.Fail() },
		func(c *arc.Calc) { c.Div(c.Num(1), c.Num(0)) },
		func(c *arc.Calc) { c.Root(c.Num(-1)) },
		func(c *arc.Calc) { c.Exp(c.Num(65537)) },
		func(c *arc.Calc) { c.Log(c.Num(0)) },
		func(c *arc.Calc) { c.Atan2(c.Num(0), c.Num(-1)) },
		func(c *arc.Calc) { part.Enclose(c, 21, api.Four{}) },
		func(c *arc.Calc) { part.Enclose(c, api.Log, api.Four{}) },
	} {
		c := calc(53)
		if spoil(c); !refused(c, api.Conj, api.Four{}) {
			t.Error(i)
		}
	}
}

func TestNilCalc(t *testing.T) {
	for _, tag := range append(tags(), notTags()...) {
		for _, z := range append(good(), api.Four{}, api.Four{api.NaN, api.NaN, api.NaN, api.NaN}) {
			if !isNone(part.Enclose(nil, tag, z)) {
				t.Errorf("%s: a nil calc answers", showCall(tag, z))
			}
		}
	}
}

// P0: whatever is handed in, a calc is bad just where the chapter says so.
func TestAnythingEnds(t *testing.T) {
	t.Parallel()
	s := &source{5}
	for range 20000 {
		tag := s.below(25) - 2
		var z api.Four
		for i := range z {
			switch s.below(4) {
			case 0:
				z[i] = s.next()
			case 1:
				z[i] = notNumbers()[s.below(10)]
			case 2:
				z[i] = allWords()[s.below(40)]
			default:
				z[i] = s.ordinary()
			}
		}
		c := calc(10 + s.below(60))
		got := part.Enclose(c, tag, z)
		if want := c.P >= 16 && part.InReach(tag, z) && !part.Singular(tag, z); c.Bad == want || c.Bad && !isNone(got) || !isRight(got[0]) || !isRight(got[1]) {
			t.Fatalf("%s with %d bits: %v, bad %v", showCall(tag, z), c.P, got, c.Bad)
		}
	}
}
