package round_test

import (
	"slices"
	"testing"

	"volvelle/api"
	"volvelle/dyad"
	"volvelle/round"
)

// R4: what is handed in isn't changed, not even behind its end, and isn't kept.
// R7: a call answers the same again. P0: none panics, whatever it is given.

// roomy answers d with memory that goes on behind its M.
func roomy(d api.Dyad) api.Dyad {
	m := append(slices.Clone(d.M), 0xAAAA, 0xBBBB)
	d.M = m[:len(d.M)]
	return d
}

// whole answers all the memory that M goes on in.
func whole(d api.Dyad) []uint64 {
	return slices.Clone(d.M[:cap(d.M)])
}

func anyDyads(t *testing.T) []api.Dyad {
	t.Helper()
	l := append(notPlain(), api.Dyad{}, of(1, 0), of(1<<53+1, 0), of(-1, -1075), of(1, 1024), of(3, -api.MaxExp), of(-1, api.MaxExp),
		ones(api.MaxBits, 0), ends(api.MaxBits, -api.MaxExp), ones(54, 970), ends(200, -1200), minus(ends(3000, -4000)))
	s := &source{9}
	for range 300 {
		l = append(l, s.dyad(t))
	}
	return l
}

// answers is all that is told of a span and of its ends.
type answers struct {
	low, high, among [5]told
	lowOk, highOk    bool
	amongOk, endsOk  bool
	least, greatest  uint64
}

func ask(a api.Span) (all answers) {
	for mode := range modes {
		all.low[mode].word, all.low[mode].flags, all.lowOk = round.Exact(a.Lo, mode)
		all.high[mode].word, all.high[mode].flags, all.highOk = round.Exact(a.Hi, mode)
		var ok bool
		all.among[mode].word, all.among[mode].flags, ok = round.Among(a, mode)
		all.amongOk = all.amongOk || ok
	}
	all.least, all.greatest, all.endsOk = round.Ends(a)
	return all
}

func TestWhatIsHandedInStays(t *testing.T) {
	l := anyDyads(t)
	for i, d := range l {
		for _, other := range []api.Dyad{d, l[(i+1)%len(l)], of(1, 2000), of(-1, 2000)} {
			for _, a := range []api.Span{spanOf(d, other), spanOf(other, d)} {
				x := spanOf(roomy(a.Lo), roomy(a.Hi))
				low, high := whole(x.Lo), whole(x.Hi)
				first := ask(x)
				if !slices.Equal(low, whole(x.Lo)) || !slices.Equal(high, whole(x.Hi)) {
					t.Fatalf("%v was changed", showSpan(a))
				}
				// What stands behind the end of an M plays no part.
				if again := ask(x); again != first || ask(a) != first {
					t.Fatalf("of %v %v is told, then %v", showSpan(a), first, again)
				}
			}
		}
	}
}

// Both ends may be one and the same memory, and an M may be handed in again
// after it was written to.
func TestNothingIsKept(t *testing.T) {
	d := of(1<<53+1, 0)
	a := spanOf(d, d)
	expectAmong(t, a, api.Up, told{0x4340000000000001, inexact})
	expect(t, d, api.Up, told{0x4340000000000001, inexact})
	d.M[0] = 3
	expectAmong(t, a, api.Up, told{0x4008000000000000, 0})
	expect(t, d, api.Up, told{0x4008000000000000, 0})
	expectEnds(t, a, 0x4008000000000000, 0x4008000000000000)
	d.M[0] = 2
	expectAmong(t, a, api.Up, none)
	refused(t, d, api.Up)
}

// Calls in any order answer the same.
func TestCallsAnswerAgain(t *testing.T) {
	l := anyDyads(t)
	first := make([]answers, len(l))
	for i, d := range l {
		first[i] = ask(spanOf(d, l[len(l)-1-i]))
	}
	for i := len(l) - 1; i >= 0; i-- {
		if again := ask(spanOf(l[i], l[len(l)-1-i])); again != first[i] {
			t.Fatalf("of %v %v is told, then %v", show(l[i]), first[i], again)
		}
	}
}

func TestNonePanics(t *testing.T) {
	s := &source{10}
	random := func() api.Dyad {
		m := make([]uint64, s.below(6))
		for i := range m {
			m[i] = s.next() << s.below(64) >> s.below(70)
		}
		return api.Dyad{Neg: s.below(2) == 0, M: m, E: int(s.next()) >> s.below(64)}
	}
	for range 20000 {
		d, mode := random(), int(s.next())>>s.below(64)
		word, flags, ok := round.Exact(d, mode)
		if want := dyad.Plain(d) && mode >= 0 && mode <= 4; ok != want || !ok && (word != 0 || flags != 0) {
			t.Fatalf("Exact(%v, %d) = %x, %d, %v", d, mode, word, flags, ok)
		}
		a := spanOf(d, random())
		if word, flags, ok := round.Among(a, mode); !ok && (word != 0 || flags != 0) {
			t.Fatalf("Among(%v, %d) = %x, %d, %v", a, mode, word, flags, ok)
		}
		order, right := dyad.Cmp(a.Lo, a.Hi)
		if low, high, ok := round.Ends(a); ok != (right && order <= 0) || !ok && (low != 0 || high != 0) {
			t.Fatalf("Ends(%v) = %x, %x, %v", a, low, high, ok)
		}
	}
}
