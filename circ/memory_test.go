package circ_test

import (
	"sync"
	"testing"

	"volvelle/api"
	"volvelle/circ"
)

// R4 and R7, P0.5: what is handed in isn't changed, but the calc, and nothing is
// kept from call to call.

// roomy answers a span in memory of its own that goes on behind its ends.
func roomy(a api.Span) api.Span {
	a.Lo.M = append(append(make([]uint64, 0, len(a.Lo.M)+3), a.Lo.M...), 0xAAAA, 0xBBBB, 0xCCCC)[:len(a.Lo.M)]
	a.Hi.M = append(append(make([]uint64, 0, len(a.Hi.M)+3), a.Hi.M...), 0xAAAA, 0xBBBB, 0xCCCC)[:len(a.Hi.M)]
	return a
}

// behind tells whether the words behind a span's ends are as roomy left them.
func behind(a api.Span) bool {
	for _, m := range [][]uint64{a.Lo.M, a.Hi.M} {
		if rest := m[len(m) : len(m)+3]; rest[0] != 0xAAAA || rest[1] != 0xBBBB || rest[2] != 0xCCCC {
			return false
		}
	}
	return true
}

func scribble(m []uint64) {
	for i := range m {
		m[i] = 0xDEAD
	}
}

func TestNothingIsChanged(t *testing.T) {
	for i, a := range append(append(cases(), notRight()...), notInReach()...) {
		p := 16 + i%150
		for _, f := range functions() {
			handed := roomy(a)
			first := copied(f.call(calc(p), handed))
			if !same(handed, a) || !behind(handed) {
				t.Fatalf("%s has changed %v", f.name, a)
			}
			if second := f.call(calc(p), handed); !same(first, second) {
				t.Fatalf("%s of %v answers otherwise the second time", f.name, a)
			}
		}
	}
}

// Who handed a span in, or was answered one, may do with it as he likes
// afterwards: no later call sees it.
func TestNothingIsKept(t *testing.T) {
	spans := cases()
	for _, f := range functions() {
		var first []api.Span
		for i, a := range spans {
			handed := copied(a)
			got := f.call(calc(16+i%90), handed)
			first = append(first, copied(got))
			scribble(handed.Lo.M)
			scribble(handed.Hi.M)
			scribble(got.Lo.M)
			scribble(got.Hi.M)
		}
		// The other way round, with one calc for all.
		used := &circ.Calc{}
		for i := len(spans) - 1; i >= 0; i-- {
			used.P = 16 + i%90
			if got := f.call(used, spans[i]); !same(got, first[i]) {
				t.Fatalf("%s of %s answers otherwise the second time", f.name, showSpan(spans[i]))
			}
		}
		if used.Bad {
			t.Errorf("%s: the calc is bad", f.name)
		}
	}
}

// Calcs share no state: many at once answer as one behind the other.
func TestManyAtOnce(t *testing.T) {
	spans := cases()[:200]
	var all sync.WaitGroup
	answers := make([]api.Span, len(spans))
	for i, a := range spans {
		all.Add(1)
		go func() {
			defer all.Done()
			answers[i] = functions()[i%2].call(calc(16+i), a)
		}()
	}
	all.Wait()
	for i, a := range spans {
		if got := functions()[i%2].call(calc(16+i), a); !same(got, answers[i]) {
			t.Fatalf("of %s another answer", showSpan(a))
		}
	}
}

// Behind a refused call nothing is changed but that the calc is bad.
func TestRefusedCall(t *testing.T) {
	for _, f := range functions() {
		c, untouched := calc(60), calc(60)
		other := *c
		f.call(c, point(number(65537, 0)))
		if !c.Bad || c.P != 60 || other.Bad || untouched.Bad || isZero(f.call(&other, point(number(2, 0)))) {
			t.Error(f.name, *c, other)
		}
	}
}
