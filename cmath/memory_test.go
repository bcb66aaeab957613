package cmath_test

import (
	"math"
	"slices"
	"sync"
	"testing"

	"volvelle/api"
	"volvelle/cmath"
)

// P0, P0.5, R4 and R7: what is handed in isn't changed, nothing is kept from call
// to call, and each call ends.

// call: what Call is asked.
type call struct {
	tag          int
	z            api.Four
	mode, budget int
}

func (k call) parts() [2]api.Part {
	return cmath.Call(k.tag, k.z, k.mode, k.budget)
}

// calls answers some of each function, some of other tags, modes and budgets.
func calls() []call {
	s := &source{10}
	var l []call
	for n := range 1500 {
		l = append(l, call{n%23 - 1, s.anyFour(), s.of(-1, 0, 0, 1, 1, 2, 2, 3, 3, 4, 4, 5), s.of(127, 128, 128, 129, 256, 300, 700, 4097)})
	}
	return l
}

// In whatever order calls are made each has its answer, and what was handed in is
// as it was.
func TestNothingIsKept(t *testing.T) {
	t.Parallel()
	all, before := calls(), calls()
	var first [][2]api.Part
	for _, k := range all {
		first = append(first, k.parts())
	}
	for i := len(all) - 1; i >= 0; i-- {
		k := all[i]
		if got := k.parts(); got != first[i] {
			t.Fatalf("%s: another answer the second time", showCall(k.tag, k.z, k.mode, k.budget))
		}
		if all[i] != before[i] || k != before[i] {
			t.Fatalf("%s: changed", showCall(k.tag, k.z, k.mode, k.budget))
		}
	}
}

// Many at once answer as one behind the other.
func TestManyAtOnce(t *testing.T) {
	t.Parallel()
	all := calls()
	var group sync.WaitGroup
	answers := make([][2]api.Part, len(all))
	for i, k := range all {
		group.Add(1)
		go func() {
			defer group.Done()
			answers[i] = k.parts()
		}()
	}
	group.Wait()
	for i, k := range all {
		if got := k.parts(); got != answers[i] {
			t.Fatalf("%s: another answer", showCall(k.tag, k.z, k.mode, k.budget))
		}
	}
}

// Who was answered budgets may write into them: no later call sees it.
func TestBudgetsAreNew(t *testing.T) {
	z := words(0x1p-300, 0)
	before := cmath.Call(api.Cos, z, api.Down, 1000)
	for _, budget := range []int{128, 1000, 4096} {
		l := cmath.Budgets(budget)
		kept := slices.Clone(l)
		l = l[:cap(l)]
		for i := range l {
			l[i] = 1
		}
		if got := cmath.Budgets(budget); !slices.Equal(got, kept) {
			t.Errorf("%d: %v, not %v", budget, got, kept)
		}
	}
	answers(t, api.Cos, z, api.Down, 1000, before)
}

// Each call ends, whatever it is given.
func TestAnyArguments(t *testing.T) {
	t.Parallel()
	s := &source{11}
	numbers := []int{math.MinInt, math.MinInt + 1, -1 << 32, -4097, -1, 0, 1, 4, 5, 20, 21, 127, 128, 4096, 4097, 1 << 32, math.MaxInt - 1, math.MaxInt}
	for range 5000 {
		tag, mode, budget := s.of(numbers...), s.of(numbers...), s.of(numbers...)
		if got := cmath.Call(tag, s.anyFour(), mode, budget); (got[0].Status == api.BadOp) != (got[1].Status == api.BadOp) {
			t.Errorf("%d, %d, %d: %s", tag, mode, budget, show(got))
		}
	}
	for range 300 {
		k := call{s.below(21), api.Four{s.next(), s.next(), s.next(), s.next()}, s.below(5), 128 + s.below(3969)}
		if got := k.parts(); got[0].Status == api.BadOp || got[1].Status == api.BadOp {
			t.Errorf("%s: %s", showCall(k.tag, k.z, k.mode, k.budget), show(got))
		}
	}
}
