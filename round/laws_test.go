package round_test

import (
	"slices"
	"testing"

	"volvelle/api"
	"volvelle/bits"
	"volvelle/round"
)

// P10.2: a word stays what it stands for; a greater number isn't rounded to a
// lesser word; what is rounded lies between its neighbours. These tests hold
// the calls against each other, and against dyads and their words alone.

// edgeWords answers words of sign 0 that stand for numbers: at the ends of their
// kinds, single bits, and powers of 2 with their neighbours.
func edgeWords() []uint64 {
	l := []uint64{0, 1, 2, 3, 4, 5, greatestSmall - 1, greatestSmall, leastNormal, leastNormal + 1, greatestNormal, greatestNormal - 1}
	for i := range 52 {
		l = append(l, 1<<i, 1<<i+1, 1<<i-1)
	}
	for e := uint64(1); e <= 2046; e++ {
		l = append(l, e<<52, e<<52+1, e<<52-1)
	}
	return l
}

func answer(t *testing.T, d api.Dyad, mode int) told {
	t.Helper()
	word, flags, ok := round.Exact(d, mode)
	if !ok {
		t.Fatalf("Exact(%v, %d) isn't told", show(d), mode)
	}
	return told{word, flags}
}

func TestWordsStay(t *testing.T) {
	s := &source{3}
	l := edgeWords()
	for range 30000 {
		l = append(l, s.word())
	}
	for _, b := range l {
		for _, word := range []uint64{b, b | sign} {
			d := numberOf(t, word)
			if b == 0 {
				word = 0
			}
			for _, mode := range modes {
				expect(t, d, mode, told{word, 0})
				expectAmong(t, spanOf(d, d), mode, told{word, 0})
			}
			expectEnds(t, spanOf(d, d), word, word)
		}
	}
}

// What is rounded is rounded to itself again, in each mode.
func TestRoundedStays(t *testing.T) {
	s := &source{4}
	for range 20000 {
		d := s.dyad(t)
		for _, mode := range modes {
			word := answer(t, d, mode).word
			if bits.Kind(word) == api.Infinite || bits.Kind(word) == api.Zero {
				continue
			}
			for _, again := range modes {
				expect(t, numberOf(t, word), again, told{word, 0})
			}
		}
	}
}

// place answers where a word stands in the order of what words stand for, with
// the infinities at the ends, and the zero of sign 1 ahead of the other one.
func place(b uint64) int64 {
	if bits.Neg(b) {
		return -1 - int64(b&^sign)
	}
	return int64(b)
}

// ladder answers numbers in their order, from far below to far above: about each
// power of 2, about words and the middles between them, and far away.
func ladder(t *testing.T) []api.Dyad {
	t.Helper()
	s := &source{5}
	l := []api.Dyad{{}}
	for e := -1090; e <= 1030; e++ {
		for _, n := range []int64{-5, -4, -3, -2, -1, 0, 1, 2, 3} {
			l = append(l, sum(t, of(1, e), of(n, max(e-52, -1074)-2)))
		}
	}
	for range 4000 {
		b := s.word()
		for _, part := range []int64{0, 1, 7, 8, 9, 15, 16, 17} {
			l = append(l, at(t, b, part))
		}
	}
	for e := 1024; e <= api.MaxExp; e += e / 3 {
		l = append(l, of(1, e), ones(200, e), of(1, -e), ends(9000, -e))
	}
	for _, d := range slices.Clone(l) {
		l = append(l, minus(d))
	}
	slices.SortFunc(l, func(a, b api.Dyad) int {
		return compare(t, a, b)
	})
	return l
}

func TestGreaterIsNotRoundedToLesser(t *testing.T) {
	l := ladder(t)
	for _, mode := range modes {
		last := infinity | sign
		for i, d := range l {
			word := answer(t, d, mode).word
			if place(word) < place(last) {
				t.Fatalf("%v and %v are rounded to %x and %x in the mode %d", show(l[max(i-1, 0)]), show(d), last, word, mode)
			}
			last = word
		}
	}
}

// Two numbers as near each other as may be: in no mode the greater one falls.
func TestNearOnesAreInOrder(t *testing.T) {
	s := &source{6}
	for range 10000 {
		d := s.dyad(t)
		above := sum(t, d, of(1, d.E-s.below(300)))
		for _, mode := range modes {
			x, y := answer(t, d, mode).word, answer(t, above, mode).word
			if place(x) > place(y) {
				t.Fatalf("%v and %v are rounded to %x and %x in the mode %d", show(d), show(above), x, y, mode)
			}
		}
	}
}

// Ends of a wider span don't lie inside those of a narrower one.
func TestWiderSpansHaveWiderEnds(t *testing.T) {
	s := &source{7}
	for range 5000 {
		l := []api.Dyad{s.dyad(t), s.dyad(t), s.dyad(t), s.dyad(t)}
		slices.SortFunc(l, func(a, b api.Dyad) int {
			return compare(t, a, b)
		})
		low, high, _ := round.Ends(spanOf(l[0], l[3]))
		lower, higher, ok := round.Ends(spanOf(l[1], l[2]))
		if !ok || place(low) > place(lower) || place(high) < place(higher) {
			t.Fatalf("Ends from %v to %v, and within these from %v to %v", show(l[0]), show(l[3]), show(l[1]), show(l[2]))
		}
	}
}

// checkNeighbours: a number lies at the word that Cut tells, or between it and
// the next one outward, and each mode leads to one of these two.
func checkNeighbours(t *testing.T, d api.Dyad) {
	t.Helper()
	in := answer(t, d, api.Cut)
	if in.flags&api.Inexact == 0 {
		if !isWord(d) {
			t.Fatalf("%v is said to be exact", show(d))
		}
		for _, mode := range modes {
			expect(t, d, mode, in)
		}
		return
	}
	if isWord(d) || bits.Neg(in.word) != d.Neg {
		t.Fatalf("%v is rounded to %x, and said to be inexact", show(d), in.word)
	}
	// In sizes, as the word of a zero tells no sign to its number.
	size, low := api.Dyad{M: d.M, E: d.E}, in.word&^sign
	if compare(t, numberOf(t, low), size) >= 0 || low != greatestNormal && compare(t, size, numberOf(t, low+1)) >= 0 {
		t.Fatalf("%v isn't between %x and the next", show(d), in.word)
	}
	ahead, behind := in.word, in.word+1
	if d.Neg {
		ahead, behind = behind, ahead
	}
	if down, up := answer(t, d, api.Down).word, answer(t, d, api.Up).word; down != ahead || up != behind {
		t.Fatalf("%v is rounded to %x downwards and to %x upwards", show(d), down, up)
	}
	checkNearest(t, d, size, in.word)
}

// checkNearest: Even and Away lead to the nearer of two words; of two that are
// as near one leads to the even word, the other away from 0.
func checkNearest(t *testing.T, d, size api.Dyad, in uint64) {
	t.Helper()
	low := in &^ sign
	back, ahead := sum(t, size, minus(numberOf(t, low))), sum(t, numberOf(t, low+1), minus(size))
	even, away := in, in
	switch compare(t, back, ahead) {
	case 1:
		even, away = in+1, in+1
	case 0:
		even, away = in+in%2, in+1
	}
	if x, y := answer(t, d, api.Even).word, answer(t, d, api.Away).word; x != even || y != away {
		t.Fatalf("%v is rounded to %x and %x, not to %x and %x", show(d), x, y, even, away)
	}
}

func TestRoundedLiesBetweenNeighbours(t *testing.T) {
	s := &source{8}
	for range 20000 {
		checkNeighbours(t, s.dyad(t))
	}
	for _, d := range ladder(t) {
		// Farther away differences have more bits than plain dyads.
		if d.E > -12000 && d.E < 12000 {
			checkNeighbours(t, d)
		}
	}
}

// The flags go together: none without Inexact, the same ones but Overflow in
// each mode, which goes with the infinity, and with 2^1024.
func TestFlagsGoTogether(t *testing.T) {
	end, least := of(1, 1024), of(1, -1022)
	for _, d := range ladder(t) {
		size := api.Dyad{M: d.M, E: d.E}
		for _, mode := range modes {
			x := answer(t, d, mode)
			want := 0
			if !isWord(d) {
				want = inexact
				if compare(t, size, least) < 0 {
					want = underflow
				}
				if compare(t, size, end) >= 0 || bits.Kind(x.word) == api.Infinite {
					want = overflow
				}
			}
			if x.flags != want {
				t.Fatalf("%v is rounded to %x in the mode %d with %d, not %d", show(d), x.word, mode, x.flags, want)
			}
		}
	}
}
