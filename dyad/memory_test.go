package dyad_test

import (
	"math"
	"slices"
	"testing"

	"volvelle/api"
	"volvelle/dyad"
)

// R4: what is handed in isn't changed, not even behind its end. R7: a call
// answers the same again.

// roomy answers d with memory that goes on behind its M.
func roomy(d api.Dyad) api.Dyad {
	m := append(slices.Clone(d.M), 0xAAAA, 0xBBBB)
	d.M = m[:len(d.M)]
	return d
}

func whole(d api.Dyad) api.Dyad {
	d.M = slices.Clone(d.M[:cap(d.M)])
	return d
}

// callAll makes each call of the layer, and answers all that was answered.
func callAll(a, b api.Dyad, p int, up bool) (answers []api.Dyad, told []int) {
	keep := func(d api.Dyad, ok bool) {
		d.M = slices.Clone(d.M)
		answers = append(answers, d)
		if ok {
			told = append(told, len(answers))
		}
	}
	keep(dyad.Make(a.Neg, a.M, a.E))
	keep(dyad.Sum(a))
	keep(dyad.Sum(a, b))
	keep(dyad.Sum(a, a, b, a))
	keep(dyad.Mul(a, b))
	keep(dyad.Mul(a, a))
	keep(dyad.Cut(a, p, up))
	keep(dyad.Over(a, b, p, up))
	keep(dyad.Over(a, a, p, up))
	keep(dyad.Root(a, p, up))
	keep(dyad.Neg(a))
	order, _ := dyad.Cmp(a, b)
	if dyad.Plain(a) {
		order += 10
	}
	return answers, append(told, order)
}

func sameAll(a, b []api.Dyad) bool {
	return slices.EqualFunc(a, b, same)
}

func TestMemory(t *testing.T) {
	s := &source{12}
	all := append(edges(), notPlain()...)
	for range 20 {
		all = append(all, s.dyad(200, 100))
	}
	for i, a := range all {
		for j, b := range all {
			x, y := roomy(a), roomy(b)
			wasX, wasY := whole(x), whole(y)
			p, up := 1+(i+j)%130, i%2 == 0
			answers, told := callAll(x, y, p, up)
			if !same(wasX, whole(x)) || !same(wasY, whole(y)) {
				t.Fatalf("%v or %v was changed", show(a), show(b))
			}
			again, toldAgain := callAll(x, y, p, up)
			if !sameAll(answers, again) || !slices.Equal(told, toldAgain) {
				t.Fatalf("calls of %v and %v answer otherwise the second time", show(a), show(b))
			}
		}
	}
}

// Make is handed a list that its caller may change later: it isn't kept.
func TestMakeKeepsNothing(t *testing.T) {
	s := &source{13}
	for range 3000 {
		m := append(s.m(200), 1)
		d, _ := dyad.Make(false, m, 0)
		kept := slices.Clone(d.M)
		for i := range m {
			m[i] = math.MaxUint64
		}
		if !slices.Equal(d.M, kept) {
			t.Fatal("what is made shares its words with the list")
		}
	}
}

// The list of Sum stays as it was, zeros and all.
func TestSumLeavesItsList(t *testing.T) {
	l := []api.Dyad{of(3, 5), {}, of(-3, -5), ones(130, 0), {M: list{}}, of(1, 7)}
	was := make([]api.Dyad, len(l))
	for i, d := range l {
		was[i] = whole(d)
	}
	dyad.Sum(l...)
	dyad.Sum(l[:3]...)
	if !sameAll(l, was) {
		t.Error("the list was changed")
	}
}
