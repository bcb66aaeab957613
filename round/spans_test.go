package round_test

import (
	"testing"

	"volvelle/api"
	"volvelle/bits"
	"volvelle/dyad"
	"volvelle/round"
)

// P10.1: Among and Ends answer as the chapter says.

// none says that a mode tells nothing of a span.
var none = told{flags: -1}

func spanOf(low, high api.Dyad) api.Span {
	return api.Span{Lo: low, Hi: high}
}

func opposite(a api.Span) api.Span {
	return spanOf(minus(a.Hi), minus(a.Lo))
}

func expectAmong(t *testing.T, a api.Span, mode int, want told) {
	t.Helper()
	word, flags, ok := round.Among(a, mode)
	if want == none {
		if ok || word != 0 || flags != 0 {
			t.Fatalf("Among(%v, %d) = %x, %d, %v, where nothing is told", showSpan(a), mode, word, flags, ok)
		}
		return
	}
	if !ok || word != want.word || flags != want.flags {
		t.Fatalf("Among(%v, %d) = %x, %d, %v, not %x, %d", showSpan(a), mode, word, flags, ok, want.word, want.flags)
	}
}

func expectEnds(t *testing.T, a api.Span, low, high uint64) {
	t.Helper()
	if lo, hi, ok := round.Ends(a); !ok || lo != low || hi != high {
		t.Fatalf("Ends(%v) = %x, %x, %v, not %x, %x", showSpan(a), lo, hi, ok, low, high)
	}
}

// expectSpan holds what is told of a span, in each mode and by its ends, and of
// the opposite one with Up and Down changed. The span doesn't hold 0.
func expectSpan(t *testing.T, a api.Span, among [5]told, low, high uint64) {
	t.Helper()
	turned := [5]int{api.Even, api.Cut, api.Down, api.Up, api.Away}
	for _, mode := range modes {
		expectAmong(t, a, mode, among[mode])
		other := among[turned[mode]]
		if other != none {
			other.word ^= sign
		}
		expectAmong(t, opposite(a), mode, other)
	}
	expectEnds(t, a, low, high)
	expectEnds(t, opposite(a), high^sign, low^sign)
}

// at answers what lies part/16 of the way from a word's number to the next.
func at(t *testing.T, b uint64, part int64) api.Dyad {
	t.Helper()
	return within(t, b, part, 4)
}

func TestAmongOfOneNumber(t *testing.T) {
	for _, d := range []api.Dyad{
		{}, of(1, 0), of(3, -1074), of(1<<53+1, 0), of(1<<53-1, 971), of(1<<54-1, 970), of(1, 1024), of(5, api.MaxExp),
		of(1, -1074), of(1, -1075), of(3, -1076), of(1, -api.MaxExp), of(1<<53-1, -1075), ones(5000, -5000), ends(200, -1200),
	} {
		for _, x := range []api.Dyad{d, minus(d)} {
			want := expected(x)
			for _, mode := range modes {
				expectAmong(t, spanOf(x, x), mode, want[mode])
			}
			expectEnds(t, spanOf(x, x), want[api.Down].word, want[api.Up].word)
		}
	}
}

// Spans about one gap between words, in sixteenths of it: parts of the gap
// ahead of the word are below 0, of the one behind it above 16.
func TestSpansAboutAGap(t *testing.T) {
	for _, x := range []struct {
		low, high              int64
		even, cut, up, away    int64
		least, greatest, flags int64
	}{
		// Within the gap, and from its ends on.
		{1, 7, 0, 0, 1, 0, 0, 1, 0},
		{9, 15, 1, 0, 1, 1, 0, 1, 0},
		{1, 8, 0, 0, 1, 9, 0, 1, 0},
		{8, 15, 9, 0, 1, 1, 0, 1, 0},
		{7, 9, 9, 0, 1, 9, 0, 1, 0},
		{1, 15, 9, 0, 1, 9, 0, 1, 0},
		{0, 1, 0, 0, 9, 0, 0, 1, 0},
		{0, 7, 0, 0, 9, 0, 0, 1, 0},
		{15, 16, 1, 9, 1, 1, 0, 1, 0},
		{0, 16, 9, 9, 9, 9, 0, 1, 0},
		// Over a neighbour, and from or to a middle next to it.
		{15, 17, 1, 9, 9, 1, 0, 2, 0},
		{9, 23, 1, 9, 9, 1, 0, 2, 0},
		{8, 17, 9, 9, 9, 1, 0, 2, 0},
		{16, 24, 9, 1, 9, 9, 1, 2, 0},
		{1, 17, 9, 9, 9, 9, 0, 2, 0},
		{-1, 1, 0, 9, 9, 0, -1, 1, 0},
		{-8, 8, 0, 9, 9, 9, -1, 1, 0},
		{-8, 7, 0, 9, 9, 0, -1, 1, 0},
		{-9, 7, 9, 9, 9, 9, -1, 1, 0},
		{-7, 9, 9, 9, 9, 9, -1, 1, 0},
		// Over more than one gap.
		{-16, 32, 9, 9, 9, 9, -1, 2, 0},
		{-24, 8, 9, 9, 9, 9, -2, 1, 0},
	} {
		for _, b := range []uint64{0x3FF8000000000000, 0x4000000000000400, 0x0020000000000002, 0x7FEFFFFFFFFFFF00, 0x0008000000000000} {
			flags := inexact
			if b < leastNormal {
				flags = underflow
			}
			tell := func(step int64) told {
				if step == 9 {
					return none
				}
				return told{b + uint64(step), flags}
			}
			want := [5]told{tell(x.even), tell(x.cut), tell(x.up), tell(x.cut), tell(x.away)}
			expectSpan(t, spanOf(at(t, b, x.low), at(t, b, x.high)), want, b+uint64(x.least), b+uint64(x.greatest))
		}
	}
}

// Where nothing but the two ends is known, a span over a word's number is told
// to be inexact, even where the word stands for an end.
func TestAmongIsInexact(t *testing.T) {
	for _, b := range []uint64{0x3FF0000000000000, leastNormal, greatestNormal - 1} {
		n := numberOf(t, b)
		expectAmong(t, spanOf(n, at(t, b, 1)), api.Down, told{b, inexact})
		expectAmong(t, spanOf(n, at(t, b, 1)), api.Cut, told{b, inexact})
		expectAmong(t, spanOf(minus(at(t, b, 1)), minus(n)), api.Up, told{b | sign, inexact})
		expectAmong(t, spanOf(at(t, b, 15), numberOf(t, b+1)), api.Up, told{b + 1, inexact})
	}
	for _, b := range []uint64{1, 5, greatestSmall - 1, greatestSmall} {
		n := numberOf(t, b)
		expectAmong(t, spanOf(n, at(t, b, 1)), api.Down, told{b, underflow})
		expectAmong(t, spanOf(at(t, b-1, 15), at(t, b, 1)), api.Even, told{b, underflow})
		expectAmong(t, spanOf(at(t, b-1, 15), n), api.Away, told{b, underflow})
	}
}

// Zero is in the span, or an end of it: nothing is told among its numbers, even
// where all are rounded to 0.
func TestSpansThatHoldZero(t *testing.T) {
	for _, x := range []struct {
		a         api.Span
		low, high uint64
	}{
		{spanOf(api.Dyad{}, of(1, -1074)), 0, 1},
		{spanOf(api.Dyad{}, of(1, -1075)), 0, 1},
		{spanOf(api.Dyad{}, of(1, -2000)), 0, 1},
		{spanOf(api.Dyad{M: []uint64{}}, of(1, -api.MaxExp)), 0, 1},
		{spanOf(api.Dyad{}, of(1, 0)), 0, 0x3FF0000000000000},
		{spanOf(of(-1, -1074), api.Dyad{}), sign | 1, 0},
		{spanOf(of(-1, -2000), api.Dyad{}), sign | 1, 0},
		{spanOf(of(-5, 0), api.Dyad{}), 0xC014000000000000, 0},
		{spanOf(of(-1, -2000), of(1, -2000)), sign | 1, 1},
		{spanOf(of(-1, -1074), of(1, -1074)), sign | 1, 1},
		{spanOf(of(-3, -1075), of(5, -1076)), sign | 2, 2},
		{spanOf(of(-1, 0), of(1, 0)), 0xBFF0000000000000, 0x3FF0000000000000},
		{spanOf(of(-1, 1024), of(1, 1024)), infinity | sign, infinity},
		{spanOf(of(-1, api.MaxExp), of(1, -api.MaxExp)), infinity | sign, 1},
	} {
		for _, mode := range modes {
			expectAmong(t, x.a, mode, none)
		}
		expectEnds(t, x.a, x.low, x.high)
	}
}

// Next to 0 all may be rounded to it, with the sign that all of them have.
func TestSpansNextToZero(t *testing.T) {
	zero, one := told{0, underflow}, told{1, underflow}
	for _, x := range []struct {
		a         api.Span
		want      [5]told
		low, high uint64
	}{
		{spanOf(of(1, -3000), of(1, -2000)), [5]told{zero, zero, one, zero, zero}, 0, 1},
		{spanOf(of(1, -api.MaxExp), of(1, -1076)), [5]told{zero, zero, one, zero, zero}, 0, 1},
		{spanOf(of(1, -3000), of(1, -1075)), [5]told{zero, zero, one, zero, none}, 0, 1},
		{spanOf(of(1, -1075), of(3, -1076)), [5]told{none, zero, one, zero, one}, 0, 1},
		{spanOf(of(3, -1076), of(1, -1074)), [5]told{one, none, one, none, one}, 0, 1},
		{spanOf(of(1, -1076), of(3, -1076)), [5]told{none, zero, one, zero, none}, 0, 1},
		{spanOf(of(3, -1076), of(5, -1076)), [5]told{one, none, none, none, one}, 0, 2},
		{spanOf(of(1, -1076), of(5, -1076)), [5]told{none, none, none, none, none}, 0, 2},
	} {
		expectSpan(t, x.a, x.want, x.low, x.high)
	}
}

// Over 2^-1022 some numbers are tiny and others not, so that nothing is told,
// even where all are rounded to one word.
func TestSpansAboutTheLeastNormal(t *testing.T) {
	nothing := [5]told{none, none, none, none, none}
	least, small := told{leastNormal, inexact}, told{leastNormal, underflow}
	under, over := told{greatestSmall, underflow}, told{leastNormal + 1, inexact}
	near := func(part int64) api.Dyad {
		return at(t, greatestSmall, part)
	}
	for _, x := range []struct {
		low, high        int64
		want             [5]told
		lowest, farthest uint64
	}{
		{15, 16, nothing, greatestSmall, leastNormal},
		{9, 16, nothing, greatestSmall, leastNormal},
		{15, 17, nothing, greatestSmall, leastNormal + 1},
		{9, 23, nothing, greatestSmall, leastNormal + 1},
		{1, 40, nothing, greatestSmall, leastNormal + 2},
		{9, 15, [5]told{small, under, small, under, small}, greatestSmall, leastNormal},
		{8, 15, [5]told{small, under, small, under, small}, greatestSmall, leastNormal},
		{1, 7, [5]told{under, under, small, under, under}, greatestSmall, leastNormal},
		{0, 7, [5]told{under, under, none, under, under}, greatestSmall, leastNormal},
		{-1, 1, [5]told{under, none, none, none, under}, greatestSmall - 1, leastNormal},
		{16, 17, [5]told{least, least, none, least, least}, leastNormal, leastNormal + 1},
		{17, 23, [5]told{least, least, over, least, least}, leastNormal, leastNormal + 1},
		{17, 24, [5]told{least, least, over, least, none}, leastNormal, leastNormal + 1},
		{25, 31, [5]told{over, least, over, least, over}, leastNormal, leastNormal + 1},
	} {
		expectSpan(t, spanOf(near(x.low), near(x.high)), x.want, x.lowest, x.farthest)
	}
}

// Over 2^1024, or over what is rounded to it, Overflow goes with some numbers
// and not with others.
func TestSpansAboutTheInfinity(t *testing.T) {
	kept, cut, out := told{greatestNormal, inexact}, told{greatestNormal, overflow}, told{infinity, overflow}
	greatest, end := of(1<<53-1, 971), of(1, 1024)
	inside := func(part int64) api.Dyad {
		return at(t, greatestNormal, part)
	}
	just := sum(t, end, of(-1, -5000))
	for _, x := range []struct {
		a         api.Span
		want      [5]told
		low, high uint64
	}{
		{spanOf(inside(1), inside(7)), [5]told{kept, kept, out, kept, kept}, greatestNormal, infinity},
		{spanOf(greatest, inside(7)), [5]told{kept, kept, none, kept, kept}, greatestNormal, infinity},
		{spanOf(inside(-1), inside(1)), [5]told{kept, none, none, none, kept}, greatestNormal - 1, infinity},
		{spanOf(inside(7), inside(8)), [5]told{none, kept, out, kept, none}, greatestNormal, infinity},
		{spanOf(inside(8), just), [5]told{out, kept, out, kept, out}, greatestNormal, infinity},
		{spanOf(inside(8), end), [5]told{out, none, out, none, out}, greatestNormal, infinity},
		{spanOf(inside(9), of(3, 1023)), [5]told{out, none, out, none, out}, greatestNormal, infinity},
		{spanOf(inside(7), end), [5]told{none, none, out, none, none}, greatestNormal, infinity},
		{spanOf(greatest, end), [5]told{none, none, none, none, none}, greatestNormal, infinity},
		{spanOf(just, of(1, api.MaxExp)), [5]told{out, none, out, none, out}, greatestNormal, infinity},
		{spanOf(end, sum(t, end, of(1, 0))), [5]told{out, cut, out, cut, out}, greatestNormal, infinity},
		{spanOf(end, of(1, api.MaxExp)), [5]told{out, cut, out, cut, out}, greatestNormal, infinity},
		{spanOf(of(1, 200000), ones(1000, 200000)), [5]told{out, cut, out, cut, out}, greatestNormal, infinity},
		{spanOf(of(1, 0), of(1, api.MaxExp)), [5]told{none, none, none, none, none}, 0x3FF0000000000000, infinity},
	} {
		expectSpan(t, x.a, x.want, x.low, x.high)
	}
}

// wrongSpans answers spans that aren't right: an end that isn't plain, or ends
// that stand the other way round.
func wrongSpans() []api.Span {
	l := []api.Span{
		spanOf(of(1, 1), of(1, 0)), spanOf(of(1, 0), of(-1, 0)), spanOf(of(-1, 0), of(-1, 1)),
		spanOf(api.Dyad{}, of(-1, -2000)), spanOf(of(1, -2000), api.Dyad{}), spanOf(of(1, api.MaxExp), of(1, 1024)),
		spanOf(of(1<<53+1, 1), of(1<<53+1, 0)), spanOf(of(1, -3000), of(1, -4000)),
		spanOf(ends(9001, -9000), of(1, 0)),
	}
	for _, d := range notPlain() {
		l = append(l, spanOf(d, d), spanOf(d, of(1, 0)), spanOf(of(1, 0), d), spanOf(of(-1, 1024), d), spanOf(d, of(1, 2000)), spanOf(api.Dyad{}, d), spanOf(d, api.Dyad{}))
	}
	return l
}

func TestSpansThatAreNotRight(t *testing.T) {
	for _, a := range wrongSpans() {
		for _, mode := range append(wrongModes(), modes[:]...) {
			expectAmong(t, a, mode, none)
		}
		if low, high, ok := round.Ends(a); ok || low != 0 || high != 0 {
			t.Errorf("Ends(%v) = %x, %x, %v", showSpan(a), low, high, ok)
		}
	}
}

func TestAmongOfNoMode(t *testing.T) {
	for _, mode := range wrongModes() {
		for _, a := range []api.Span{
			{}, spanOf(of(1, 0), of(1, 0)), spanOf(of(1<<53+1, 0), of(1<<53+1, 0)), spanOf(of(1, -3000), of(1, -2000)),
			spanOf(at(t, leastNormal, 1), at(t, leastNormal, 2)), spanOf(of(-1, 2000), of(-1, 1999)), spanOf(of(-1, 0), of(1, 0)),
		} {
			expectAmong(t, a, mode, none)
		}
	}
}

// amongOf tells of a span by what the library says of its ends.
func amongOf(t *testing.T, a api.Span, low, high [5]told, mode int) told {
	x, y := low[mode], high[mode]
	if compare(t, a.Lo, a.Hi) == 0 {
		return x
	}
	if a.Lo.Neg != a.Hi.Neg || len(a.Lo.M) == 0 || len(a.Hi.M) == 0 {
		return none
	}
	least := sizeOf(leastNormal)
	far, near := exactly(a.Lo), exactly(a.Hi)
	tiny, other := far.Abs(far).Cmp(least) < 0, near.Abs(near).Cmp(least) < 0
	if x.word != y.word || tiny != other || x.flags&api.Overflow != y.flags&api.Overflow {
		return none
	}
	flags := x.flags&api.Overflow | api.Inexact
	if tiny {
		flags |= api.Underflow
	}
	return told{x.word, flags}
}

// Spans of which something is told, and others: each answer is also held
// against numbers of the span.
func TestSpansOfMany(t *testing.T) {
	s := &source{2}
	decided := 0
	for range 12000 {
		low, high := s.dyad(t), s.dyad(t)
		if s.below(8) > 0 {
			// The other end is often near.
			e := max(low.E+s.below(8)-10, -1074-s.below(200))
			high = sum(t, low, of(int64(s.below(15)-7), e))
		}
		if compare(t, low, high) > 0 {
			low, high = high, low
		}
		a := spanOf(low, high)
		x, y := expected(low), expected(high)
		for _, mode := range modes {
			want := amongOf(t, a, x, y, mode)
			expectAmong(t, a, mode, want)
			if want != none {
				decided++
				checkInside(t, s, a, mode, want)
			}
		}
		expectEnds(t, a, x[api.Down].word, y[api.Up].word)
		checkAbout(t, a)
	}
	if decided < 10000 || decided > 50000 {
		t.Errorf("%d of 60000 are told", decided)
	}
}

// checkInside: numbers of the span are rounded to the word, with the flags that
// are told, unless the word stands for them.
func checkInside(t *testing.T, s *source, a api.Span, mode int, want told) {
	t.Helper()
	gap := sum(t, a.Hi, minus(a.Lo))
	d := sum(t, a.Lo, plain(t)(dyad.Mul(gap, of(int64(s.next()>>4), -60))))
	got := expected(d)[mode]
	if got.word != want.word || got.flags != want.flags && !isWord(d) {
		t.Fatalf("of %v in mode %d %x, %d is told, but %v has %x, %d", showSpan(a), mode, want.word, want.flags, show(d), got.word, got.flags)
	}
}

// checkAbout: the words of Ends lie about the span, and those between are none.
func checkAbout(t *testing.T, a api.Span) {
	t.Helper()
	low, high, ok := round.Ends(a)
	if !ok {
		t.Fatalf("Ends(%v) isn't told", showSpan(a))
	}
	if low != infinity|sign {
		next, _ := bits.Next(low, true)
		if compare(t, numberOf(t, low), a.Lo) > 0 || next != infinity && compare(t, numberOf(t, next), a.Lo) <= 0 {
			t.Fatalf("%v lies behind %x", show(a.Lo), low)
		}
	}
	if high != infinity {
		next, _ := bits.Next(high, false)
		if compare(t, numberOf(t, high), a.Hi) < 0 || next != infinity|sign && compare(t, numberOf(t, next), a.Hi) >= 0 {
			t.Fatalf("%v lies ahead of %x", show(a.Hi), high)
		}
	}
}
