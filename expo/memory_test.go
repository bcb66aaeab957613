package expo_test

import (
	"testing"

	"volvelle/api"
	"volvelle/expo"
)

// R4 and R7, P0.5: what is handed in isn't changed, but the calc, and nothing is
// kept from call to call.

// roomy answers a span in memory of its own that goes on behind its ends.
func roomy(a api.Span) api.Span {
	a.Lo.M = append(append(make([]uint64, 0, len(a.Lo.M)+3), a.Lo.M...), 0xAAAA, 0xBBBB, 0xCCCC)[:len(a.Lo.M)]
	a.Hi.M = append(append(make([]uint64, 0, len(a.Hi.M)+3), a.Hi.M...), 0xAAAA, 0xBBBB, 0xCCCC)[:len(a.Hi.M)]
	return a
}

// behind tells whether the words behind a span's ends are as roomy left them.
func behind(a api.Span) bool {
	for _, m := range [][]uint64{a.Lo.M, a.Hi.M} {
		if rest := m[len(m) : len(m)+3]; rest[0] != 0xAAAA || rest[1] != 0xBBBB || rest[2] != 0xCCCC {
			return false
		}
	}
	return true
}

func scribble(m []uint64) {
	for i := range m {
		m[i] = 0xDEAD
	}
}

func TestNothingIsChanged(t *testing.T) {
	all := append(append(append(cases(), notRight()...), notInReach()...),
		point(number(1, -200000)), point(number(-3, -api.MaxExp)), between(api.Dyad{}, number(3, -api.MaxExp)))
	for i, a := range all {
		for _, f := range functions() {
			p := 16 + i%150
			handed := roomy(a)
			first := copied(f.call(calc(p), handed))
			if !same(handed, a) || !behind(handed) {
				t.Fatalf("%s has changed %v", f.name, a)
			}
			second := f.call(calc(p), handed)
			if !same(first, second) {
				t.Fatalf("%s of %v answers otherwise the second time", f.name, a)
			}
		}
	}
}

// Who handed a span in, or was answered one, may do with it as he likes
// afterwards: no later call sees it.
func TestNothingIsKept(t *testing.T) {
	spans := cases()
	var first []api.Span
	for i, a := range spans {
		for _, f := range functions() {
			handed := copied(a)
			got := f.call(calc(16+i%90), handed)
			first = append(first, copied(got))
			scribble(handed.Lo.M)
			scribble(handed.Hi.M)
			scribble(got.Lo.M)
			scribble(got.Hi.M)
		}
	}
	// The other way round, with one calc for all.
	used := &expo.Calc{}
	at := len(first)
	for i := len(spans) - 1; i >= 0; i-- {
		for k := len(functions()) - 1; k >= 0; k-- {
			at--
			f := functions()[k]
			used.P = 16 + i%90
			if got := f.call(used, spans[i]); !same(got, first[at]) {
				t.Fatalf("%s of %s answers otherwise the second time", f.name, showSpan(spans[i]))
			}
		}
	}
	if used.Bad {
		t.Error("the calc is bad")
	}
}

// Behind a refused call nothing is changed but that the calc is bad.
func TestRefusedCalls(t *testing.T) {
	for _, f := range functions() {
		c, untouched := calc(60), calc(60)
		other := *c
		f.call(c, point(number(1, 40)))
		if !c.Bad || c.P != 60 || other.Bad || untouched.Bad || isZero(f.call(&other, point(number(1, 0)))) {
			t.Error(f.name, *c, other)
		}
	}
}
