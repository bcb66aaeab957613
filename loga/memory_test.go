package loga_test

import (
	"testing"

	"volvelle/api"
	"volvelle/loga"
)

// R4 and R7, P0.5: what is handed in isn't changed, but the calc, and nothing is
// kept from call to call.

// roomy answers a span in memory of its own that goes on behind its ends.
func roomy(a api.Span) api.Span {
	a.Lo.M = append(append(make([]uint64, 0, len(a.Lo.M)+3), a.Lo.M...), 0xAAAA, 0xBBBB, 0xCCCC)[:len(a.Lo.M)]
	a.Hi.M = append(append(make([]uint64, 0, len(a.Hi.M)+3), a.Hi.M...), 0xAAAA, 0xBBBB, 0xCCCC)[:len(a.Hi.M)]
	return a
}

// behind tells whether the words behind a span's ends are as roomy left them.
func behind(a api.Span) bool {
	for _, m := range [][]uint64{a.Lo.M, a.Hi.M} {
		if rest := m[len(m) : len(m)+3]; rest[0] != 0xAAAA || rest[1] != 0xBBBB || rest[2] != 0xCCCC {
			return false
		}
	}
	return true
}

func scribble(m []uint64) {
	for i := range m {
		m[i] = 0xDEAD
	}
}

func TestNothingIsChanged(t *testing.T) {
	all := append(append(append(cases(), notRight()...), notInReach()...),
		point(above(one(), -api.MaxBits+1)), point(below(one(), -api.MaxBits)))
	for i, a := range all {
		p := 16 + i%150
		handed := roomy(a)
		first := copied(calc(p).Log(handed))
		if !same(handed, a) || !behind(handed) {
			t.Fatalf("Log has changed %v", a)
		}
		if second := calc(p).Log(handed); !same(first, second) {
			t.Fatalf("Log of %v answers otherwise the second time", a)
		}
	}
}

// Who handed a span in, or was answered one, may do with it as he likes
// afterwards: no later call sees it.
func TestNothingIsKept(t *testing.T) {
	spans := cases()
	var first []api.Span
	for i, a := range spans {
		handed := copied(a)
		got := calc(16 + i%90).Log(handed)
		first = append(first, copied(got))
		scribble(handed.Lo.M)
		scribble(handed.Hi.M)
		scribble(got.Lo.M)
		scribble(got.Hi.M)
	}
	// The other way round, with one calc for all.
	used := &loga.Calc{}
	for i := len(spans) - 1; i >= 0; i-- {
		used.P = 16 + i%90
		if got := used.Log(spans[i]); !same(got, first[i]) {
			t.Fatalf("Log of %s answers otherwise the second time", showSpan(spans[i]))
		}
	}
	if used.Bad {
		t.Error("the calc is bad")
	}
}

// Behind a refused call nothing is changed but that the calc is bad.
func TestRefusedCall(t *testing.T) {
	c, untouched := calc(60), calc(60)
	other := *c
	c.Log(point(number(-1, 0)))
	if !c.Bad || c.P != 60 || other.Bad || untouched.Bad || isZero(other.Log(point(number(2, 0)))) {
		t.Error(*c, other)
	}
}
