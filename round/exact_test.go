package round_test

import (
	"testing"

	"volvelle/api"
	"volvelle/bits"
	"volvelle/dyad"
	"volvelle/round"
)

// P10.1: Exact answers as the chapter says, in each mode and of either sign:
// expectAll asks for both. What is written out here are words and flags; many
// numbers are held against the library in TestExactOfMany.

func TestModesAndFlags(t *testing.T) {
	if modes != [5]int{0, 1, 2, 3, 4} {
		t.Error("the modes are others")
	}
	if api.Inexact != 1 || api.Overflow != 2 || api.Underflow != 4 {
		t.Error("the flags are others")
	}
}

func TestExactOfZero(t *testing.T) {
	expectAll(t, api.Dyad{}, alike(0, 0))
	expectAll(t, api.Dyad{M: []uint64{}}, alike(0, 0))
}

// What a word stands for has that word, and no flag, be it tiny or not.
func TestExactOfWords(t *testing.T) {
	for _, x := range []struct {
		d    api.Dyad
		word uint64
	}{
		{of(1, 0), 0x3FF0000000000000},
		{of(3, -1), 0x3FF8000000000000},
		{of(1<<53-1, 0), 0x433FFFFFFFFFFFFF},
		{of(1<<52+1, 1), 0x4340000000000001},
		{of(1, -1074), 1},
		{of(3, -1074), 3},
		{of(1, -1023), 0x0008000000000000},
		{of(1<<52-1, -1074), greatestSmall},
		{of(1, -1022), leastNormal},
		{of(1<<52+1, -1074), leastNormal + 1},
		{of(1, 1023), 0x7FE0000000000000},
		{of(1<<53-1, 971), greatestNormal},
	} {
		expectAll(t, x.d, alike(x.word, 0))
	}
}

func TestExactInTheMiddle(t *testing.T) {
	for _, x := range []struct {
		d         api.Dyad
		low, even uint64
	}{
		{of(1<<53+1, 0), 0x4340000000000000, 0x4340000000000000},
		{of(1<<53+3, 0), 0x4340000000000001, 0x4340000000000002},
		{of(1<<54-1, -1), 0x433FFFFFFFFFFFFF, 0x4340000000000000},
		{of(1<<54-3, -1), 0x433FFFFFFFFFFFFE, 0x433FFFFFFFFFFFFE},
		{of(1<<53+1, -53), 0x3FF0000000000000, 0x3FF0000000000000},
		{of(1<<53+3, -53), 0x3FF0000000000001, 0x3FF0000000000002},
		{of(1<<54-1, -54), 0x3FEFFFFFFFFFFFFF, 0x3FF0000000000000},
		{of(1<<53+1, 970), 0x7FE0000000000000, 0x7FE0000000000000},
		{of(1<<54-3, 970), 0x7FEFFFFFFFFFFFFE, 0x7FEFFFFFFFFFFFFE},
		{of(1<<53+1, -1075), 0x0010000000000000, 0x0010000000000000},
		{of(1<<54-1, -1075), 0x001FFFFFFFFFFFFF, 0x0020000000000000},
		{of(1<<53+1, -1074), 0x0020000000000000, 0x0020000000000000},
	} {
		expectAll(t, x.d, five(inexact, x.even, x.low, x.low+1, x.low, x.low+1))
	}
}

// Just to either side of the middle, and of the words about it, the nearest
// word is clear, however little it is that leads there.
func TestExactJustBesideTheMiddle(t *testing.T) {
	for _, low := range []uint64{
		0x3FF0000000000000, 0x3FF0000000000001, 0x3FEFFFFFFFFFFFFF, 0x4340000000000000, 0x400921FB54442D18,
		0x7FE0000000000000, 0x7FEFFFFFFFFFFFFE, 0x0010000000000000, 0x0010000000000001, 0x001FFFFFFFFFFFFF,
	} {
		middle := within(t, low, 1, 1)
		for _, e := range []int{-1, -2, -3, -10, -52, -53, -54, -63, -64, -65, -128, -1000, -15000} {
			little := of(1, middle.E+e)
			under := five(inexact, low, low, low+1, low, low)
			over := five(inexact, low+1, low, low+1, low, low+1)
			expectAll(t, sum(t, middle, minus(little)), under)
			expectAll(t, sum(t, middle, little), over)
			expectAll(t, sum(t, numberOf(t, low), little), under)
			expectAll(t, sum(t, numberOf(t, low+1), minus(little)), over)
		}
	}
}

// What is below 2^-1022 is tiny, even where it is rounded to that.
func TestExactNextToTheLeastNormal(t *testing.T) {
	least := of(1, -1022)
	expectAll(t, least, alike(leastNormal, 0))
	expectAll(t, sum(t, least, of(-1, -1074)), alike(greatestSmall, 0))

	up := five(underflow, leastNormal, greatestSmall, leastNormal, greatestSmall, leastNormal)
	for _, e := range []int{-1075, -1076, -1077, -1100, -1200, -9000} {
		expectAll(t, sum(t, least, of(-1, e)), up)
	}
	expectAll(t, sum(t, least, of(-1, -1075), of(1, -3000)), up)
	down := five(underflow, greatestSmall, greatestSmall, leastNormal, greatestSmall, greatestSmall)
	expectAll(t, sum(t, least, of(-1, -1075), of(-1, -3000)), down)
	expectAll(t, sum(t, least, of(-3, -1076)), down)

	above := five(inexact, leastNormal, leastNormal, leastNormal+1, leastNormal, leastNormal)
	for _, e := range []int{-1076, -1077, -1100, -1200, -9000} {
		expectAll(t, sum(t, least, of(1, e)), above)
	}
	middle := above
	middle[api.Away].word = leastNormal + 1
	expectAll(t, sum(t, least, of(1, -1075)), middle)
}

// Below the least Small, and in the middle between 0 and it; what is rounded to
// 0 keeps its sign.
func TestExactNextToZero(t *testing.T) {
	under := five(underflow, 0, 0, 1, 0, 0)
	middle := five(underflow, 0, 0, 1, 0, 1)
	over := five(underflow, 1, 0, 1, 0, 1)
	for _, e := range []int{-1076, -1077, -1100, -1126, -1127, -1128, -1138, -1139, -2000, -5000, -api.MaxExp} {
		expectAll(t, of(1, e), under)
	}
	expectAll(t, of(1, -1075), middle)
	expectAll(t, ones(100, -1175), under)
	expectAll(t, ends(10000, -11074), over)
	expectAll(t, of(3, -1076), over)
	expectAll(t, of(1<<54-1, -1128), over)
	expectAll(t, ones(16000, -17074), over)
	for _, mode := range modes {
		word, flags := sign, underflow
		if mode == api.Down {
			word = sign | 1
		}
		expect(t, of(-1, -1200), mode, told{word, flags})
	}
}

func TestExactBetweenSmalls(t *testing.T) {
	for _, low := range []uint64{1, 2, 3, 4, 5, 1 << 30, 1<<30 - 1, 1 << 51, 1<<51 - 1, greatestSmall - 1} {
		even := low + low%2
		expectAll(t, of(2*int64(low)+1, -1075), five(underflow, even, low, low+1, low, low+1))
		expectAll(t, of(4*int64(low)+1, -1076), five(underflow, low, low, low+1, low, low))
		expectAll(t, of(4*int64(low)+3, -1076), five(underflow, low+1, low, low+1, low, low+1))
		middle := within(t, low, 1, 1)
		expectAll(t, sum(t, middle, of(-1, -4000)), five(underflow, low, low, low+1, low, low))
		expectAll(t, sum(t, middle, of(1, -4000)), five(underflow, low+1, low, low+1, low, low+1))
	}
}

// From the greatest number to 2^1024: Overflow goes with what is rounded to
// 2^1024, so not with what stays at the greatest number.
func TestExactNextToTheInfinity(t *testing.T) {
	kept, lost := told{greatestNormal, inexact}, told{infinity, overflow}
	under, over := [5]told{kept, kept, lost, kept, kept}, [5]told{lost, kept, lost, kept, lost}
	greatest, middle, end := of(1<<53-1, 971), of(1<<54-1, 970), of(1, 1024)
	expectAll(t, greatest, alike(greatestNormal, 0))
	expectAll(t, middle, over)
	for _, e := range []int{969, 968, 900, 0, -1, -1074, -1075, -9000} {
		expectAll(t, sum(t, greatest, of(1, e)), under)
		expectAll(t, sum(t, middle, of(-1, e)), under)
		expectAll(t, sum(t, middle, of(1, e)), over)
		expectAll(t, sum(t, end, of(-1, e)), over)
	}
}

// From 2^1024 on all is Overflow; the modes that lead inward go to the greatest
// number all the same.
func TestExactFromTheInfinityOn(t *testing.T) {
	want := five(overflow, infinity, greatestNormal, infinity, greatestNormal, infinity)
	end := of(1, 1024)
	l := []api.Dyad{end, of(1, 1025), of(3, 1023), of(1<<53-1, 972), of(1<<54-1, 971), ones(1025, 0), ends(1025, 0), ones(3000, -1900)}
	for _, e := range []int{972, 971, 970, 0, -1, -1074, -9000} {
		l = append(l, sum(t, end, of(1, e)))
	}
	for _, d := range l {
		expectAll(t, d, want)
	}
}

// Exponents far away: among them ones that are a multiple of 2048 from those of
// words.
func TestExactFarAway(t *testing.T) {
	far := five(overflow, infinity, greatestNormal, infinity, greatestNormal, infinity)
	near := five(underflow, 0, 0, 1, 0, 0)
	for e := 1024; e <= api.MaxExp; e += 1 + e/500 {
		expectAll(t, of(1, e), far)
		expectAll(t, of(0x1FFFFFFFFFFFFF, e), far)
		expectAll(t, of(5, -e-78), near)
	}
	for _, n := range []int{1, 2, 52, 53, 54, 64, 65, 4000, api.MaxBits} {
		for _, e := range []int{api.MaxExp, api.MaxExp - 1, api.MaxExp / 2, 1 << 15} {
			expectAll(t, ones(n, e), far)
			expectAll(t, ends(n, e), far)
			expectAll(t, ones(n, -e), near)
			expectAll(t, ends(n, -e), near)
		}
	}
}

func TestExactOfManyWords(t *testing.T) {
	for n := 60; n <= api.MaxBits; n += 1 + n/5 {
		expectAll(t, ends(n, 1-n), five(inexact, 0x3FF0000000000000, 0x3FF0000000000000, 0x3FF0000000000001, 0x3FF0000000000000, 0x3FF0000000000000))
		expectAll(t, ones(n, 1-n), five(inexact, 0x4000000000000000, 0x3FFFFFFFFFFFFFFF, 0x4000000000000000, 0x3FFFFFFFFFFFFFFF, 0x4000000000000000))
		for _, top := range []int{-1100, -1074, -1073, -1022, -1021, 0, 1023, 1024, 1025} {
			expectAll(t, ends(n, top-n), expected(ends(n, top-n)))
			expectAll(t, ones(n, top-n), expected(ones(n, top-n)))
		}
	}
}

func TestExactOfMany(t *testing.T) {
	s := &source{1}
	for range 30000 {
		d := s.dyad(t)
		want := expected(d)
		for _, mode := range modes {
			expect(t, d, mode, want[mode])
		}
	}
	for range 10000 {
		m := []uint64{s.next() >> s.below(64), s.next() >> s.below(64)}[:1+s.below(2)]
		d, _ := dyad.Make(s.below(2) == 0, m, s.below(2400)-1230)
		want := expected(d)
		for _, mode := range modes {
			expect(t, d, mode, want[mode])
		}
	}
}

// About each power of 2, with up to three bits more than a word tells.
func TestExactAboutEachPower(t *testing.T) {
	for e := -1080; e <= 1025; e++ {
		for _, n := range []int64{-9, -6, -5, -4, -3, -2, -1, 1, 2, 3, 4, 5, 6, 9} {
			d := sum(t, of(1, e), of(n, max(e-52, -1074)-2))
			want := expected(d)
			for _, mode := range modes {
				expect(t, d, mode, want[mode])
			}
		}
	}
}

func refused(t *testing.T, d api.Dyad, mode int) {
	t.Helper()
	if word, flags, ok := round.Exact(d, mode); ok || word != 0 || flags != 0 {
		t.Errorf("Exact(%v, %d) = %x, %d, %v", show(d), mode, word, flags, ok)
	}
}

func TestExactOfWhatIsNotPlain(t *testing.T) {
	for _, d := range notPlain() {
		if dyad.Plain(d) {
			t.Fatalf("%v is plain", show(d))
		}
		for _, mode := range modes {
			refused(t, d, mode)
		}
		refused(t, d, 5)
	}
}

func TestExactOfNoMode(t *testing.T) {
	for _, mode := range wrongModes() {
		for _, d := range []api.Dyad{{}, of(1, 0), of(-3, 7), of(1, -1074), of(1<<53+1, 0), of(-1, -1075), of(1, -9000), of(1, 1024), of(-1, api.MaxExp)} {
			refused(t, d, mode)
		}
	}
}

// The document's examples.
func TestExamples(t *testing.T) {
	expect(t, of(1<<53+1, 0), api.Even, told{0x4340000000000000, inexact})
	for _, mode := range []int{api.Up, api.Away} {
		expect(t, of(1<<53+1, 0), mode, told{0x4340000000000001, inexact})
	}
	if d, ok := bits.Number(0x4340000000000001); !ok || compare(t, d, of(1<<53+2, 0)) != 0 {
		t.Error(d)
	}
}
