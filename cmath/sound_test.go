package cmath_test

import (
	"math"
	"testing"

	"volvelle/api"
	"volvelle/arc"
	"volvelle/cmath"
	"volvelle/exact"
	"volvelle/part"
	"volvelle/round"
)

// P14.1 and P0.2: of the functions that aren't made of sums, products, quotients
// and roots alone, what is decided, and what isn't.

// lastEnds answers the words about what is enclosed with so many bits.
func lastEnds(t *testing.T, tag int, z api.Four, bits int) (l [2][2]uint64) {
	t.Helper()
	c := &arc.Calc{}
	c.P = bits
	for i, a := range part.Enclose(c, tag, z) {
		low, high, ok := round.Ends(a)
		if c.Bad || !ok {
			t.Fatalf("%s: nothing is enclosed", showCall(tag, z, 0, bits))
		}
		l[i] = [2]uint64{low, high}
	}
	return l
}

// checkPart holds a component that isn't known, and that lies between two ends,
// against what these are rounded to, and tells whether that is one answer.
func checkPart(t *testing.T, tag, i int, z api.Four, mode, budget int, e ends, places [2]located) bool {
	t.Helper()
	low, lowFlags := places[0].rounded(mode)
	high, highFlags := places[1].rounded(mode)
	got := cmath.Call(tag, z, mode, budget)[i]
	switch {
	case got.Status == api.Undecided:
		words := lastEnds(t, tag, z, budget)[i]
		if got != (api.Part{Status: 1, Lo: words[0], Hi: words[1]}) || !e.mayLie(got.Lo, got.Hi) {
			t.Errorf("%s, %d: %s, enclosed last %x", showCall(tag, z, mode, budget), i, showPart(got), words)
		}
	case got != is(low, lowFlags) && got != is(high, highFlags):
		t.Errorf("%s, %d: %s, not %x/%d", showCall(tag, z, mode, budget), i, showPart(got), low, lowFlags)
	}
	return low == high && lowFlags == highFlags
}

// checkReference holds a call in each mode against the reference, and answers how
// often that isn't told by it.
func checkReference(t *testing.T, tag int, z api.Four, budgets ...int) (unsure int) {
	t.Helper()
	facts := exact.Known(tag, z)
	for i, e := range reference(tag, z) {
		if facts[i].Is {
			for _, mode := range modes {
				if got := cmath.Call(tag, z, mode, budgets[0])[i]; got != is(facts[i].Word, 0) {
					t.Errorf("%s, %d: %s", showCall(tag, z, mode, budgets[0]), i, showPart(got))
				}
			}
			continue
		}
		places := [2]located{exactly(e.low).locate(), exactly(e.high).locate()}
		for _, mode := range modes {
			for _, budget := range budgets {
				if !checkPart(t, tag, i, z, mode, budget, e, places) {
					unsure++
				}
			}
		}
	}
	return unsure
}

// checkSurely asks for a reference that tells each answer, but where a tangent is
// so near to 1 that no bits would.
func checkSurely(t *testing.T, tag int, z api.Four, budgets ...int) {
	t.Helper()
	isNearOne := tag == api.Tan && z[1]&^sign > word(60) || tag == api.Tanh && z[0]&^sign > word(60)
	if n := checkReference(t, tag, z, budgets...); n > 0 && !isNearOne {
		t.Errorf("function %d of %x: the reference isn't sure of %d answers", tag, z, n)
	}
}

// quadrants holds a function in all quadrants, with zeros of both signs.
func quadrants(t *testing.T, tag int, x, y uint64, budgets ...int) {
	t.Helper()
	for signs := range 4 {
		z := at(x^side(signs), y^side(signs>>1))
		if part.InReach(tag, z) && !isSingular(tag, z) {
			checkSurely(t, tag, z, budgets...)
		}
	}
}

func TestOrdinaryWords(t *testing.T) {
	each(t, transcendental(), func(t *testing.T, tag int) {
		s := &source{uint64(tag)}
		for range 60 {
			checkSurely(t, tag, s.four(tag), 128, s.of(129, 200, 512))
		}
	})
}

// 1 and its neighbours, beside zeros and other numbers.
func TestNextToOne(t *testing.T) {
	each(t, transcendental(), func(t *testing.T, tag int) {
		for _, near := range []uint64{one - 1, one, one + 1} {
			quadrants(t, tag, near, 0, 128, 400)
			quadrants(t, tag, 0, near, 128, 400)
			for i, other := range []uint64{one - 1, one, word(0x1p-40), word(3)} {
				checkSurely(t, tag, at(near^side(i), other^side(i>>1)), 128, 400)
				checkSurely(t, tag, at(other^side(i>>1), near^side(i)), 128, 400)
			}
		}
	})
}

// Zeros, the least and the greatest Small, the least Normal, the greatest number,
// and beside them: what is told is next to 0, 1, pi and its parts, or far away.
func TestFarWords(t *testing.T) {
	l := []uint64{0, leastSmall, greatestSmall, word(0x1.8p-538), one, word(0x1.8p538), greatest}
	each(t, transcendental(), func(t *testing.T, tag int) {
		for i, x := range l {
			for j, y := range l {
				z := at(x^side(i+j), y^side(j>>1))
				if part.InReach(tag, z) && !isSingular(tag, z) {
					checkReference(t, tag, z, 128, 4096)
				}
			}
		}
	})
}

// Both sides of each cut: zeros of both signs, and the least numbers there are.
func TestBothSidesOfCuts(t *testing.T) {
	each(t, transcendental(), func(t *testing.T, tag int) {
		for _, b := range []uint64{word(0.5), word(1.5), word(-0.5), word(-1.5)} {
			for _, zero := range []uint64{0, sign} {
				checkSurely(t, tag, at(b, zero), 128, 512)
				checkSurely(t, tag, at(zero, b), 128, 512)
				checkSurely(t, tag, at(b, zero|leastSmall), 128, 4096)
				checkSurely(t, tag, at(zero|leastSmall, b), 128, 4096)
			}
		}
	})
}

// At the ends of what is in reach, where powers of e are above all numbers and
// below the least Small, and next to multiples of a quarter of a turn.
func TestAtBoundsAndQuarters(t *testing.T) {
	l := []uint64{bound, bound - 1, word(800), 0, word(math.Pi / 2), word(math.Pi), word(20000 * math.Pi / 2)}
	each(t, transcendental(), func(t *testing.T, tag int) {
		if !isBounded(tag) {
			return
		}
		for i, x := range l {
			for j, y := range l {
				checkReference(t, tag, at(x^side(i+j), y^side(j>>1)), 128, 700)
			}
		}
	})
}

// Where powers of e go over from numbers to infinities, from Normal to Small, and
// to 0.
func TestNextToOverflowAndUnderflow(t *testing.T) {
	t.Parallel()
	for _, x := range []float64{709.782712893384, -708.3964185322641, -744.4400719213812, -745.1332191019412} {
		for _, step := range []uint64{0, 1, 2} {
			b := word(x) - 1 + step
			checkReference(t, api.Exp, at(b, 0), 128)
			checkReference(t, api.Exp, at(b, word(math.Pi)), 128)
			checkReference(t, api.Exp, at(b, word(0x1p-1074)), 128)
			checkReference(t, api.Sinh, at(b, word(1.5)), 128)
			checkReference(t, api.Tanh, at(word(x/2)+step, word(2)), 128, 4096)
			checkReference(t, api.Cos, at(word(1.5), b), 128)
		}
	}
}

// Of what is Undecided the words are those about what was enclosed last: with all
// bits of the budget, whatever was worked ahead.
func TestUndecided(t *testing.T) {
	t.Parallel()
	for _, k := range []struct {
		tag, at int
		x, y    float64
	}{
		{api.Cos, 0, 0x1p-1074, 0}, {api.Cos, 0, 0x1p-1074, 0x1p-1074}, {api.Cosh, 0, 0, 0x1p-1000}, {api.Exp, 0, 0x1p-1074, 0x1p-900},
		{api.Tanh, 0, 32768, 1}, {api.Tan, 1, 0.5, -32768}, {api.Sin, 0, 0x1p-1022, 0x1p-1022}, {api.Sin, 1, 0x1p-1060, 0x1p-1022},
		{api.Asin, 0, 0x1p-900, 0}, {api.Atan, 1, 0x1p-600, 0x1p-900}, {api.Log, 0, 0x1p1000, 0},
	} {
		z := words(k.x, k.y)
		count := 0
		for _, budget := range []int{128, 129, 300, 1000, 4096} {
			for _, mode := range modes {
				got := cmath.Call(k.tag, z, mode, budget)[k.at]
				if got.Status != api.Undecided {
					continue
				}
				count++
				ends := lastEnds(t, k.tag, z, budget)[k.at]
				if got != (api.Part{Status: 1, Lo: ends[0], Hi: ends[1]}) || !isBelow(got.Lo, got.Hi) {
					t.Errorf("%s: %s, enclosed last %x", showCall(k.tag, z, mode, budget), showPart(got), ends)
				}
			}
		}
		if (count == 0) != (k.tag == api.Log) {
			t.Errorf("function %d of %v and %v: %d are undecided", k.tag, k.x, k.y, count)
		}
	}
}

// Where a calc goes bad what was enclosed ahead of that counts; if nothing was,
// all that is known is that the component lies among the numbers.
func TestNothingIsEnclosed(t *testing.T) {
	t.Parallel()
	far := api.Part{Status: 1, Lo: 0xFFF0000000000000, Hi: 0x7FF0000000000000}
	z := words(0x1p-300, 0)
	for _, k := range []struct {
		bits []int
		want int // bits
	}{{nil, 0}, {[]int{15}, 0}, {[]int{6001, 0, -1}, 0}, {[]int{128, 6001}, 128}, {[]int{6001, 200, 15}, 200}, {[]int{16, 128}, 128}} {
		want := far
		if k.want > 0 {
			ends := lastEnds(t, api.Cos, z, k.want)[0]
			want = api.Part{Status: 1, Lo: ends[0], Hi: ends[1]}
		}
		if got := cmath.Work(api.Cos, z, api.Down, k.bits...); got != [2]api.Part{want, is(sign, 0)} {
			t.Errorf("%v bits: %s", k.bits, show(got))
		}
	}
	if got := cmath.Work(api.Exp, words(1, 1), api.Even, 15, 7000); got != [2]api.Part{far, far} {
		t.Errorf("nothing is enclosed: %s", show(got))
	}
	if got := cmath.Work(api.Sqrt, words(3, 4), api.Even, 15, 6000, 15); got != [2]api.Part{is(word(2), 0), is(word(1), 0)} {
		t.Errorf("decided with the second bits: %s", show(got))
	}
}

// What is decided stays as it is, while the other component is worked on.
func TestEachPartByItself(t *testing.T) {
	t.Parallel()
	z := words(0x1p-300, 0x1p-20)
	for _, budget := range []int{128, 256, 512, 1024} {
		got := cmath.Call(api.Tanh, z, api.Down, budget)
		if got[1].Status != api.Decided {
			t.Errorf("%s: %s", showCall(api.Tanh, z, api.Down, budget), show(got))
		}
	}
	z = words(0x1p-300, 1)
	low, high := cmath.Call(api.Cosh, z, api.Down, 128), cmath.Call(api.Cosh, z, api.Down, 1024)
	if low[0].Status != api.Decided || low != high {
		t.Errorf("%s: %s, %s", showCall(api.Cosh, z, api.Down, 128), show(low), show(high))
	}
}
