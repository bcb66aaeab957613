package part_test

import (
	"slices"
	"sync"
	"testing"

	"volvelle/api"
	"volvelle/arc"
	"volvelle/part"
)

// R3, R4 and R7, P0.5: what is handed in isn't changed, but the calc, and nothing
// is kept from call to call.

// call: what Enclose is asked.
type call struct {
	p, tag int
	z      api.Four
}

// calls answers some of each function.
func calls() []call {
	s := &source{9}
	var l []call
	for n := range 420 {
		tag := n % 21
		l = append(l, call{16 + s.below(200), tag, s.anyFour(tag)})
	}
	return l
}

// copied answers spans in memory of their own.
func copied(a [2]api.Span) [2]api.Span {
	for i := range a {
		a[i].Lo.M = slices.Clone(a[i].Lo.M)
		a[i].Hi.M = slices.Clone(a[i].Hi.M)
	}
	return a
}

// scribble writes into all memory of spans.
func scribble(a [2]api.Span) {
	for i := range a {
		for _, m := range [][]uint64{a[i].Lo.M, a[i].Hi.M} {
			m = m[:cap(m)]
			for j := range m {
				m[j] = 0xDEAD
			}
		}
	}
}

// Who was answered a span may do with it as he likes: no later call sees it, in
// whatever order, with a calc for each or one for all.
func TestNothingIsKept(t *testing.T) {
	t.Parallel()
	all := calls()
	var first [][2]api.Span
	for _, k := range all {
		got := enclosed(t, k.p, k.tag, k.z)
		first = append(first, copied(got))
		scribble(got)
	}
	used := &arc.Calc{}
	for i := len(all) - 1; i >= 0; i-- {
		k := all[i]
		used.P = k.p
		inReach, singular := part.InReach(k.tag, k.z), part.Singular(k.tag, k.z)
		if got := part.Enclose(used, k.tag, k.z); !sameBoth(got, first[i]) || used.Bad || used.P != k.p || !inReach || singular {
			t.Fatalf("%s with %d bits: another answer the second time", showCall(k.tag, k.z), k.p)
		}
	}
}

// Calls share no state: many at once answer as one behind the other.
func TestManyAtOnce(t *testing.T) {
	t.Parallel()
	all := calls()
	var group sync.WaitGroup
	answers := make([][2]api.Span, len(all))
	for i, k := range all {
		group.Add(1)
		go func() {
			defer group.Done()
			answers[i] = part.Enclose(calc(k.p), k.tag, k.z)
		}()
	}
	group.Wait()
	for i, k := range all {
		if !sameBoth(enclosed(t, k.p, k.tag, k.z), answers[i]) {
			t.Fatalf("%s with %d bits: another answer", showCall(k.tag, k.z), k.p)
		}
	}
}

// A calc goes on behind a call with what it had: its bits, and that it is good.
func TestCalcGoesOn(t *testing.T) {
	c := calc(60)
	before := c.Pi()
	for _, k := range calls() {
		part.Enclose(c, k.tag, k.z)
	}
	if c.Bad || c.P != 60 || !same(c.Pi(), before) {
		t.Errorf("%v bits, bad %v", c.P, c.Bad)
	}
}

// Behind a refused call nothing is changed but that the calc is bad: not another
// one, not words that were handed in.
func TestRefusedCall(t *testing.T) {
	for _, k := range []call{
		{60, 21, api.Four{one, one, one, one}}, {60, api.Log, api.Four{0, sign, 1, 2}}, {60, api.Exp, api.Four{bound + 1, 0, 1, 2}},
		{60, api.Mul, api.Four{one, one, one, api.NaN}}, {15, api.Abs, api.Four{one, one, 3, 4}},
	} {
		c, untouched, z := calc(k.p), calc(k.p), k.z
		other := *c
		if got := part.Enclose(c, k.tag, z); !c.Bad || c.P != k.p || other.Bad || untouched.Bad || z != k.z || !isNone(got) {
			t.Errorf("%s with %d bits", showCall(k.tag, k.z), k.p)
		}
	}
}
