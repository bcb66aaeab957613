package span_test

import (
	"slices"
	"testing"

	"volvelle/api"
	"volvelle/span"
)

// R3 and R4: what is handed in isn't changed, not even behind its end, whether
// a call is refused or not. R7: a call answers the same again.

// roomy answers a span whose ends have memory that goes on behind their M.
func roomy(a api.Span) api.Span {
	for _, d := range []*api.Dyad{&a.Lo, &a.Hi} {
		m := append(slices.Clone(d.M), 0xAAAA, 0xBBBB)
		d.M = m[:len(d.M)]
	}
	return a
}

// copied answers a span in memory of its own, with what stands behind its end.
func copied(a api.Span) api.Span {
	a.Lo.M = slices.Clone(a.Lo.M[:cap(a.Lo.M)])
	a.Hi.M = slices.Clone(a.Hi.M[:cap(a.Hi.M)])
	return a
}

// answers makes each call with a work of its own, and tells all that came of
// it; what is answered is handed out as it is, and as a copy.
func answers(a, b api.Span, p int) (got, copies []api.Span, bad []bool) {
	for _, c := range calls(a, b) {
		w := &span.Work{P: p}
		answer := c.made(w)
		got = append(got, answer)
		copies = append(copies, api.Span{
			Lo: api.Dyad{Neg: answer.Lo.Neg, M: slices.Clone(answer.Lo.M), E: answer.Lo.E},
			Hi: api.Dyad{Neg: answer.Hi.Neg, M: slices.Clone(answer.Hi.M), E: answer.Hi.E},
		})
		bad = append(bad, w.Bad)
	}
	return got, copies, bad
}

func TestMemory(t *testing.T) {
	all := append(notRight(), api.Span{}, api.Span{Lo: api.Dyad{M: list{}}})
	s := &source{6}
	for range 40 {
		all = append(all, s.span(200, 100))
	}
	for i, e := range edges() {
		if i%5 == 0 {
			all = append(all, e)
		}
	}
	for i, a := range all {
		for j, b := range all {
			x, y := roomy(a), roomy(b)
			wasX, wasY := copied(x), copied(y)
			p := (i + 3*j) % 130
			got, copies, bad := answers(x, y, p)
			span.Sign(x)
			_, again, badAgain := answers(x, y, p)
			if !same(wasX, copied(x)) || !same(wasY, copied(y)) {
				t.Fatalf("%v or %v was changed", show(a), show(b))
			}
			if !slices.EqualFunc(copies, again, same) || !slices.Equal(bad, badAgain) {
				t.Fatalf("calls of %v and %v answer otherwise the second time", show(a), show(b))
			}
			if !slices.EqualFunc(got, copies, same) {
				t.Fatalf("what calls of %v and %v had answered was changed later", show(a), show(b))
			}
		}
	}
}

// What a call answers hangs on the work's bits, not on what it was used for.
func TestWorksAreAlike(t *testing.T) {
	s := &source{7}
	used := &span.Work{P: 40}
	for range 500 {
		a, b := s.span(100, 50), point(of(3, s.below(20)))
		for _, c := range calls(between(api.Dyad{}, of(7, s.below(30))), b) {
			if !same(c.made(used), c.made(&span.Work{P: 40})) {
				t.Fatalf("%s with a work that was used", c.name)
			}
		}
		if !same(used.Add(a, b), (&span.Work{P: 40}).Add(a, b)) {
			t.Fatal("Add with a work that was used")
		}
	}
	if used.Bad {
		t.Error("the work is bad")
	}
}

// A work is two plain fields: a copy of it is a work of its own.
func TestCopiedWork(t *testing.T) {
	w := span.Work{P: 9}
	other := w
	other.Fail()
	if w.Bad || !same(w.Num(3), ints(3, 3)) || !other.Bad {
		t.Error(w, other)
	}
}
