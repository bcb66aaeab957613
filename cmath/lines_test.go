package cmath_test

import (
	"math"
	"slices"
	"testing"

	"volvelle/api"
	"volvelle/bits"
	"volvelle/cmath"
	"volvelle/exact"
	"volvelle/part"
	"volvelle/special"
)

// The lines of Call in their order (R1, R5, R6), and Budgets.

// budgets answers integers about those that are budgets, and others.
func budgets() []int {
	return []int{
		api.LeastBudget, api.LeastBudget + 1, 512, api.MostBudget - 1, api.MostBudget,
		api.LeastBudget - 1, api.MostBudget + 1, 0, -1, -128, -512, 1 << 32, 1<<32 + 128, math.MaxInt, math.MinInt, math.MinInt + 512,
	}
}

// someTags answers all tags, and integers beside them.
func someTags() []int {
	l := []int{256, 1 << 32, 1<<32 + 4, -256, math.MaxInt, math.MinInt, math.MinInt + 6}
	for tag := -2; tag <= 22; tag++ {
		l = append(l, tag)
	}
	return l
}

// someModes answers all modes, and integers beside them.
func someModes() []int {
	l := []int{8, 256, 1 << 32, 1<<32 + 1, -256, math.MaxInt, math.MinInt, math.MinInt + 4}
	for mode := -2; mode <= 6; mode++ {
		l = append(l, mode)
	}
	return l
}

// someFours answers words of which each line tells: special ones, ones out of
// reach, both, some where a function is singular, zeros, ordinary ones.
func someFours() []api.Four {
	return []api.Four{
		{}, {sign, sign, sign, sign}, both(3, 4, 1, 2), both(0.5, -0.25, 0, 0), both(1, 0, -1, 0), both(0, -1, 0, 1),
		both(40000, 0, 1, 1), both(-1, -40000, 1, 1), both(40000, 1e300, 0, 0),
		both(math.Inf(1), 0, 1, 1), both(1, math.Inf(-1), 1, 1), both(1, 1, math.Inf(1), 1), both(1, 1, 1, math.NaN()),
		both(40000, math.Inf(1), 1, 1), both(math.NaN(), 40000, 1, 1), {1, 0xFFF0000000000001, 0, 0}, {api.NaN | sign, 1, math.MaxUint64, infinity},
	}
}

// expected answers what the lines tell, as far as they don't leave it to what is
// enclosed, and whether they do.
func expected(tag int, z api.Four, mode, budget int) (parts [2]api.Part, isTold bool) {
	if tag < 0 || tag > 20 || mode < 0 || mode > 4 || budget < 128 || budget > 4096 {
		return bare(3), true
	}
	if words, flags, ok := special.Special(tag, z); ok {
		return [2]api.Part{is(words[0], flags), is(words[1], flags)}, true
	}
	if !part.InReach(tag, z) {
		return bare(2), true
	}
	return parts, false
}

// checkShape asks of parts which have a word that nothing is told that isn't
// named, and that what is known is as it is told.
func checkShape(t *testing.T, tag int, z api.Four, mode, budget int) {
	t.Helper()
	facts := exact.Known(tag, z)
	got := cmath.Call(tag, z, mode, budget)
	for i, p := range got {
		isRight := p.Status == api.Decided && p.Lo == 0 && p.Hi == 0 && p.Flags&^(overflow|underflow) == 0
		if p.Status == api.Undecided {
			isRight = !facts[i].Is && p.Word == 0 && p.Flags == 0 && isBelow(p.Lo, p.Hi)
		}
		if !isRight || facts[i].Is && p != is(facts[i].Word, 0) {
			t.Errorf("%s: %s", showCall(tag, z, mode, budget), show(got))
		}
	}
}

// isBelow tells whether one word's number is below another's: infinities are
// beyond all numbers, and zeros are the same.
func isBelow(a, b uint64) bool {
	return math.Float64frombits(a) < math.Float64frombits(b)
}

func TestLinesInTheirOrder(t *testing.T) {
	t.Parallel()
	count := map[int]int{}
	for _, tag := range someTags() {
		for _, mode := range someModes() {
			for _, budget := range budgets() {
				for _, z := range someFours() {
					want, isTold := expected(tag, z, mode, budget)
					if !isTold {
						count[-1]++
						continue
					}
					answers(t, tag, z, mode, budget, want)
					count[want[0].Status]++
				}
			}
		}
	}
	if count[-1] == 0 || count[api.Decided] == 0 || count[api.Reach] == 0 || count[api.BadOp] == 0 || count[api.Undecided] != 0 {
		t.Error("not each line is asked for: ", count)
	}
}

func TestShapesOfParts(t *testing.T) {
	each(t, tags(), func(t *testing.T, tag int) {
		for _, z := range someFours() {
			for _, mode := range modes {
				for _, budget := range []int{128, 129, 1000, 4096} {
					if _, isTold := expected(tag, z, mode, budget); !isTold {
						checkShape(t, tag, z, mode, budget)
					}
				}
			}
		}
	})
}

// A wrong tag, mode or budget is told ahead of all that the words are.
func TestBadOp(t *testing.T) {
	for _, z := range someFours() {
		for tag := range 21 {
			answers(t, tag, z, -1, 512, [2]api.Part{{Status: 3}, {Status: 3}})
			answers(t, tag, z, 5, 512, [2]api.Part{{Status: 3}, {Status: 3}})
			answers(t, tag, z, 0, 127, [2]api.Part{{Status: 3}, {Status: 3}})
			answers(t, tag, z, 0, 4097, [2]api.Part{{Status: 3}, {Status: 3}})
			answers(t, tag, z, 0, math.MinInt, [2]api.Part{{Status: 3}, {Status: 3}})
		}
		answers(t, -1, z, 0, 512, [2]api.Part{{Status: 3}, {Status: 3}})
		answers(t, 21, z, 4, 128, [2]api.Part{{Status: 3}, {Status: 3}})
	}
}

// What is special is told whatever the mode and the budget, and ahead of what is
// out of reach.
func TestSpecialLine(t *testing.T) {
	nan, plus, minus := math.NaN(), math.Inf(1), math.Inf(-1)
	for _, k := range []struct {
		tag  int
		z    api.Four
		want [2]api.Part
	}{
		{api.Sin, both(minus, 40000, 0, 0), [2]api.Part{is(0x7FF8000000000000, 8), is(0x7FF8000000000000, 8)}},
		{api.Exp, both(40000, nan, 0, 0), [2]api.Part{is(0x7FF8000000000000, 0), is(0x7FF8000000000000, 0)}},
		{api.Exp, both(minus, math.Copysign(0, -1), 0, 0), [2]api.Part{is(0, 0), is(sign, 0)}},
		{api.Abs, both(nan, minus, 0, 0), [2]api.Part{is(infinity, 0), is(0, 0)}},
		{api.Arg, both(1, minus, 0, 0), [2]api.Part{is(0xBFF921FB54442D18, 1), is(0, 1)}},
		{api.Sqrt, both(nan, minus, 0, 0), [2]api.Part{is(infinity, 0), is(infinity|sign, 0)}},
		{api.Log, both(0, 0, 0, 0), [2]api.Part{is(infinity|sign, 16), is(0, 16)}},
		{api.Atan, both(0, 1, 0, 0), [2]api.Part{is(0, 16), is(infinity, 16)}},
		{api.Atanh, both(-1, 0, 0, 0), [2]api.Part{is(infinity|sign, 16), is(0, 16)}},
		{api.Mul, both(plus, 0, 1, 0), [2]api.Part{is(0x7FF8000000000000, 8), is(0x7FF8000000000000, 8)}},
		{api.Div, both(1, -2, 0, 0), [2]api.Part{is(infinity, 16), is(infinity|sign, 16)}},
		{api.Div, both(0, 0, 0, 0), [2]api.Part{is(0x7FF8000000000000, 8), is(0x7FF8000000000000, 8)}},
		{api.Conj, api.Four{0xFFF0000000000001, 5}, [2]api.Part{is(0x7FF8000000000000, 0), is(sign|5, 0)}},
	} {
		for _, mode := range modes {
			for _, budget := range []int{128, 512, 4096} {
				answers(t, k.tag, k.z, mode, budget, k.want)
			}
		}
	}
}

// Where u and v play no part they may be anything.
func TestWordsThatPlayNoPart(t *testing.T) {
	s := &source{1}
	for n := range 2100 {
		tag, mode, budget := n%21, s.of(modes[:]...), s.of(128, 200, 256)
		if takesTwo(tag) {
			continue
		}
		z := s.anyFour()
		answers(t, tag, api.Four{z[0], z[1], s.any(), s.any()}, mode, budget, cmath.Call(tag, z, mode, budget))
	}
}

// In reach is what is 32768 at most in size, where there is a bound at all.
func TestReach(t *testing.T) {
	for tag := range 21 {
		for _, mode := range modes {
			for _, z := range []api.Four{at(bound, 0), at(sign, bound|sign), at(bound|sign, bound)} {
				if got := cmath.Call(tag, z, mode, 128); got[0].Status > api.Undecided || got[1].Status > api.Undecided {
					t.Errorf("%s: %s", showCall(tag, z, mode, 128), show(got))
				}
			}
			for _, z := range []api.Four{at(bound+1, 0), at(sign, bound|sign+1), at(bound+1, bound+1), at(greatest, 1), at(1, word(-40000))} {
				want := bare(2)
				if !isBounded(tag) {
					want = cmath.Call(tag, z, mode, 128)
					if want[0].Status > api.Undecided || want[1].Status > api.Undecided {
						t.Errorf("%s: %s", showCall(tag, z, mode, 128), show(want))
					}
				}
				answers(t, tag, z, mode, 128, want)
			}
		}
	}
}

func TestBudgets(t *testing.T) {
	for _, k := range []struct {
		budget int
		want   []int
	}{
		{128, []int{128}}, {129, []int{128, 129}}, {200, []int{128, 200}}, {255, []int{128, 255}}, {256, []int{128, 256}},
		{257, []int{128, 256, 257}}, {511, []int{128, 256, 511}}, {512, []int{128, 256, 512}}, {513, []int{128, 256, 512, 513}},
		{1000, []int{128, 256, 512, 1000}}, {1024, []int{128, 256, 512, 1024}}, {1025, []int{128, 256, 512, 1024, 1025}},
		{2048, []int{128, 256, 512, 1024, 2048}}, {2049, []int{128, 256, 512, 1024, 2048, 2049}},
		{4095, []int{128, 256, 512, 1024, 2048, 4095}}, {4096, []int{128, 256, 512, 1024, 2048, 4096}},
	} {
		if got := cmath.Budgets(k.budget); !slices.Equal(got, k.want) {
			t.Errorf("%d: %v, not %v", k.budget, got, k.want)
		}
	}
	for _, budget := range []int{127, 4097, 4098, 8192, 64, 1, 0, -1, -128, -512, 1 << 32, 1<<32 + 128, math.MaxInt, math.MinInt, math.MinInt + 128} {
		if got := cmath.Budgets(budget); got != nil {
			t.Errorf("%d: %v", budget, got)
		}
	}
}

// Each but the last one is twice the one ahead, and below the last one, which is
// the budget.
func TestAllBudgets(t *testing.T) {
	for budget := 128; budget <= 4096; budget++ {
		l := cmath.Budgets(budget)
		if len(l) == 0 || l[len(l)-1] != budget {
			t.Fatalf("%d: %v", budget, l)
		}
		for i, n := range l[:len(l)-1] {
			if n != 128<<i || n >= budget {
				t.Fatalf("%d: %v", budget, l)
			}
		}
		if n := len(l) - 1; 128<<n < budget {
			t.Fatalf("%d: %v ends too early", budget, l)
		}
	}
}

// A word that is told at all is one of a number, an infinity, or NaN.
func TestNaNIsOneWord(t *testing.T) {
	s := &source{2}
	for n := range 6300 {
		tag, mode, z := n%21, s.of(modes[:]...), s.anyFour()
		for _, p := range cmath.Call(tag, z, mode, 128) {
			for _, b := range []uint64{p.Word, p.Lo, p.Hi} {
				if bits.Kind(b) == api.NotOne && b != 0x7FF8000000000000 {
					t.Fatalf("%s: %s", showCall(tag, z, mode, 128), hex(b))
				}
			}
			if p.Status == api.Undecided && !isBelow(p.Lo, p.Hi) {
				t.Fatalf("%s: %s", showCall(tag, z, mode, 128), showPart(p))
			}
		}
	}
}
