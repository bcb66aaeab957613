package bits_test

import (
	"testing"

	"volvelle/api"
	"volvelle/bits"
	"volvelle/dyad"
)

// P9.2: Word of Number is the word, but for the sign of 0; between a number and
// its Next there is none. These tests hold the calls against each other, and
// against dyads alone.

func TestWordOfNumber(t *testing.T) {
	s := &source{3}
	l := numbers()
	for range 200000 {
		if b := s.next(); b&infinity != infinity {
			l = append(l, b)
		}
	}
	for _, b := range l {
		want := b
		if b == sign {
			want = 0
		}
		expectWord(t, numberOf(t, b), want)
	}
}

func TestNumberOfWord(t *testing.T) {
	s := &source{4}
	for range 100000 {
		m := s.next() >> (11 + s.below(53))
		d, _ := dyad.Make(s.below(2) == 0, []uint64{m}, s.below(2000)-1060)
		b, ok := bits.Word(d)
		if !ok {
			continue
		}
		if got := numberOf(t, b); !same(got, d) {
			t.Fatalf("%v has the word %x, whose number is %v", d, b, got)
		}
		if d.Neg != bits.Neg(b) {
			t.Fatalf("%v has the word %x", d, b)
		}
	}
}

// Words that differ stand for numbers that differ, and each number is plain, so
// that it has one form.
func TestNumbersDiffer(t *testing.T) {
	l := numbers()
	for i := 1; i < len(l); i++ {
		a, b := l[i-1], l[i]
		order, ok := dyad.Cmp(numberOf(t, a), numberOf(t, b))
		if alike := a == b || (a|b)&^sign == 0; !ok || alike != (order == 0) {
			t.Fatalf("the numbers of %x and %x compare as %d, %v", a, b, order, ok)
		}
	}
}

// orFail hands on the dyad that a call answers, which has to be plain.
func orFail(t *testing.T) func(d api.Dyad, ok bool) api.Dyad {
	return func(d api.Dyad, ok bool) api.Dyad {
		t.Helper()
		if !ok || !dyad.Plain(d) {
			t.Fatalf("%v, %v, where a plain dyad is asked for", show(d), ok)
		}
		return d
	}
}

// between answers the number that lies part/2^n of the way from a to b.
func between(t *testing.T, a, b api.Dyad, part int64, n int) api.Dyad {
	get := orFail(t)
	gap := get(dyad.Sum(b, get(dyad.Neg(a))))
	return get(dyad.Sum(a, get(dyad.Mul(gap, of(part, -n)))))
}

// checkNone: no number that lies between a and b, or that is tried there, has a
// word.
func checkNone(t *testing.T, s *source, a, b api.Dyad) {
	t.Helper()
	for _, x := range []struct {
		part int64
		n    int
	}{
		{1, 1}, {1, 2}, {3, 2}, {1, 60}, {1<<60 - 1, 60}, {1, 16000}, {1 + int64(s.next()>>3), 61},
	} {
		d := between(t, a, b, x.part, x.n)
		low, _ := dyad.Cmp(a, d)
		high, _ := dyad.Cmp(d, b)
		if low == 0 || low != high {
			t.Fatalf("%v isn't between %v and %v", show(d), a, b)
		}
		expectNone(t, d)
	}
}

// The next number lies on the side that is asked for, none lies between, and
// the way back leads to the number.
func TestNoneBetween(t *testing.T) {
	s := &source{5}
	for _, b := range numbers() {
		for _, way := range []bool{up, down} {
			next, ok := bits.Next(b, way)
			if !ok {
				t.Fatalf("Next(%x, %v) isn't told", b, way)
			}
			if bits.Kind(next) == api.Infinite {
				if b != greatestNormal|next&sign || bits.Neg(next) == way {
					t.Fatalf("Next(%x, %v) = %x", b, way, next)
				}
				continue
			}
			x, y := numberOf(t, b), numberOf(t, next)
			toward := 1
			if way == up {
				toward = -1
			}
			if order, _ := dyad.Cmp(x, y); order != toward {
				t.Fatalf("Next(%x, %v) = %x", b, way, next)
			}
			checkNone(t, s, x, y)
			back, ok := bits.Next(next, !way)
			if !ok || back != b && (back|b)&^sign != 0 {
				t.Fatalf("%x, %x and back %x", b, next, back)
			}
		}
	}
}

// Beyond the greatest number there is none.
func TestNoneBeyond(t *testing.T) {
	greatest := numberOf(t, greatestNormal)
	get := orFail(t)
	for e := -2000; e <= api.MaxExp; e += 1 + max(e, -e)/9 {
		d, ok := dyad.Sum(greatest, of(1, e))
		if ok {
			expectNone(t, d)
			expectNone(t, get(dyad.Neg(d)))
		}
	}
	for e := 1; e < 3000; e++ {
		expectNone(t, get(dyad.Mul(greatest, of(1, e))))
	}
}

// walk goes n steps from b, and tells each word on the way and the next one.
func walk(t *testing.T, b uint64, way bool, n int, look func(b, next uint64)) {
	t.Helper()
	for range n {
		next, ok := bits.Next(b, way)
		if !ok {
			t.Fatalf("Next(%x, %v) isn't told", b, way)
		}
		look(b, next)
		b = next
	}
}

// Next to 0 numbers are all multiples of 2^-1074: from far below to far above,
// and back, each of them is met once.
func TestNextAroundZero(t *testing.T) {
	for _, way := range []bool{up, down} {
		step, at, start := int64(1), int64(-5000), uint64(5000)|sign
		if way == down {
			step, at, start = -1, 5000, 5000
		}
		walk(t, start, way, 10000, func(b, next uint64) {
			at += step
			if !same(numberOf(t, next), of(at, -1074)) {
				t.Fatalf("behind %x comes %x, not %d times 2^-1074", b, next, at)
			}
			// Of the two zeros the one that has the sign of what is left.
			if at == 0 && bits.Neg(next) != bits.Neg(b) {
				t.Fatalf("behind %x comes %x", b, next)
			}
		})
	}
}

// The steps about a power of 2: as wide as from 2^-1074 on as the bits allow.
func TestNextAroundPowers(t *testing.T) {
	get := orFail(t)
	for e := 1; e < 2046; e++ {
		walk(t, uint64(e)<<52-20, up, 40, func(b, next uint64) {
			gap := get(dyad.Sum(numberOf(t, next), get(dyad.Neg(numberOf(t, b)))))
			unit := max(int(b>>52), 1) - 1075
			if !same(gap, of(1, unit)) {
				t.Fatalf("from %x to %x it is %v, not 2^%d", b, next, gap, unit)
			}
		})
	}
}

// From the greatest number to the infinity, and no farther.
func TestNextToTheEnds(t *testing.T) {
	walk(t, greatestNormal-20, up, 21, func(b, next uint64) {
		if next != b+1 {
			t.Fatalf("behind %x comes %x", b, next)
		}
	})
	walk(t, greatestNormal-20|sign, down, 21, func(b, next uint64) {
		if next != b+1 {
			t.Fatalf("behind %x comes %x", b, next)
		}
	})
	for _, b := range withSigns(infinity) {
		out := !bits.Neg(b)
		if next, ok := bits.Next(b, out); ok || next != 0 {
			t.Errorf("behind %x comes %x", b, next)
		}
		in, ok := bits.Next(b, !out)
		if back, yes := bits.Next(in, out); !ok || !yes || back != b {
			t.Errorf("%x, %x, %x", b, in, back)
		}
	}
}
