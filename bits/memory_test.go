package bits_test

import (
	"slices"
	"testing"

	"volvelle/api"
	"volvelle/bits"
	"volvelle/dyad"
)

// R4: what is handed in isn't changed, not even behind its end, and isn't kept.
// R7: a call answers the same again. P0: none panics, whatever it is given.

// roomy answers d with memory that goes on behind its M.
func roomy(d api.Dyad) api.Dyad {
	m := append(slices.Clone(d.M), 0xAAAA, 0xBBBB)
	d.M = m[:len(d.M)]
	return d
}

func whole(d api.Dyad) api.Dyad {
	d.M = slices.Clone(d.M[:cap(d.M)])
	return d
}

func TestWordLeavesItsDyad(t *testing.T) {
	l := notPlain()
	for _, b := range numbers() {
		l = append(l, numberOf(t, b))
	}
	l = append(l, ones(api.MaxBits, 0), ends(api.MaxBits, -api.MaxExp), ones(54, 0), ends(200, -100), of(1, 1024), of(1, -1075))
	for _, d := range l {
		x := roomy(d)
		was := whole(x)
		b, ok := bits.Word(x)
		if !same(was, whole(x)) || x.E != d.E || x.Neg != d.Neg {
			t.Fatalf("%v was changed", show(d))
		}
		if again, yes := bits.Word(x); again != b || yes != ok {
			t.Fatalf("Word(%v) = %x, %v, then %x, %v", show(d), b, ok, again, yes)
		}
		// What stands behind the end of M plays no part.
		if plain, yes := bits.Word(d); plain != b || yes != ok {
			t.Fatalf("Word(%v) hangs on what is behind it", show(d))
		}
	}
}

// An answer's memory is its own: a later call doesn't show what was written to
// it, and doesn't change it.
func TestNumbersShareNothing(t *testing.T) {
	l := numbers()
	for i, b := range l {
		d := numberOf(t, b)
		kept := whole(d)
		numberOf(t, b)
		numberOf(t, l[(i+1)%len(l)])
		if !same(whole(d), kept) {
			t.Fatalf("what Number(%x) answered was changed", b)
		}
		for j := range d.M[:cap(d.M)] {
			d.M[:cap(d.M)][j] = 0xDEAD
		}
		if again := numberOf(t, b); !slices.Equal(again.M, kept.M[:len(d.M)]) {
			t.Fatalf("Number(%x) = %v, then %v", b, kept, again)
		}
	}
}

// Calls of one word in any order answer the same.
func TestCallsAnswerAgain(t *testing.T) {
	type answer struct {
		kind         int
		neg          bool
		above, below uint64
		has, have    bool
	}
	ask := func(b uint64) (a answer) {
		a.kind, a.neg = bits.Kind(b), bits.Neg(b)
		a.above, a.has = bits.Next(b, up)
		a.below, a.have = bits.Next(b, down)
		return a
	}
	l := many()
	first := make([]answer, len(l))
	for i, b := range l {
		first[i] = ask(b)
	}
	for i := len(l) - 1; i >= 0; i-- {
		if again := ask(l[i]); again != first[i] {
			t.Fatalf("%x: %v, then %v", l[i], first[i], again)
		}
	}
}

func TestNonePanics(t *testing.T) {
	for _, b := range many() {
		bits.Kind(b)
		bits.Neg(b)
		bits.Number(b)
		bits.Next(b, up)
		bits.Next(b, down)
	}
	s := &source{6}
	for range 20000 {
		m := make([]uint64, s.below(6))
		for i := range m {
			m[i] = s.next() << s.below(64) >> s.below(70)
		}
		d := api.Dyad{Neg: s.below(2) == 0, M: m, E: int(s.next()) >> s.below(64)}
		if b, ok := bits.Word(d); ok && !dyad.Plain(d) || !ok && b != 0 {
			t.Fatalf("Word(%v) = %x, %v", d, b, ok)
		}
	}
}
