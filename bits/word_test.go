package bits_test

import (
	"testing"

	"volvelle/api"
	"volvelle/bits"
	"volvelle/dyad"
)

// P9.1: Word answers as the chapter says.

func TestWord(t *testing.T) {
	for b, d := range pairs() {
		expectWord(t, d, b)
		expectWord(t, negative(d), b|sign)
	}
	expectWord(t, api.Dyad{}, 0)
	expectWord(t, api.Dyad{M: []uint64{}}, 0)
}

// Each power of 2 that a word stands for, and with each count of bits.
func TestWordOfEachExponent(t *testing.T) {
	for e := -1074; e <= 1023; e++ {
		want := uint64(e+1023) << 52
		if e < -1022 {
			want = 1 << (e + 1074)
		}
		expectWord(t, of(1, e), want)
		expectWord(t, of(-1, e), want|sign)
		for n := 2; n <= 60; n++ {
			for _, d := range []api.Dyad{ones(n, e-n+1), ends(n, e-n+1), negative(ones(n, e))} {
				b, ok := bits.Word(d)
				if want, has := wordOf(d); ok != has || b != want {
					t.Fatalf("Word(%v) = %x, %v, not %x, %v", d, b, ok, want, has)
				}
			}
		}
	}
}

// One bit too many, ahead of the first one and behind the last one.
func TestWordOfTooManyBits(t *testing.T) {
	for e := -1127; e <= 1023; e++ {
		for _, d := range []api.Dyad{ends(54, e), ones(54, e), ends(64, e), ones(64, e), ends(65, e), ones(65, e), ends(128, e)} {
			expectNone(t, d)
			expectNone(t, negative(d))
		}
	}
	expectWord(t, ends(53, 0), 0x4340000000000000-1<<52+1)
	expectNone(t, of(1<<53+1, 0))
	expectNone(t, of(1<<54+1, -1))
	expectNone(t, of(-1<<62-1, -60))
}

// Of numbers below 2^-1022 fewer bits are told.
func TestWordOfTooManyBitsOfSmalls(t *testing.T) {
	for n := 1; n <= 53; n++ {
		expectWord(t, ones(n, -1074), 1<<n-1)
		expectWord(t, negative(ones(n, -1074)), 1<<n-1|sign)
		expectNone(t, ones(n, -1075))
		expectNone(t, negative(ones(n, -1075)))
		expectNone(t, ends(n, -1074-n))
		expectNone(t, ones(n, -1074-n))
	}
}

// Below the least Small, and between two Smalls.
func TestWordNextToZero(t *testing.T) {
	for _, d := range []api.Dyad{
		of(1, -1075), of(3, -1076), of(7, -1077), of(1, -1076), of(1<<52-1, -1126), of(1<<53-1, -1127), of(1<<53+1, -1127),
		of(3, -1075), of(5, -1075), of(5, -1076), of(7, -1076), of(1<<53-1, -1075), of(1<<52+1, -1075), of(1<<53+1, -1075),
		ones(1000, -2074), ends(1000, -2074), ones(200, -1273),
	} {
		expectNone(t, d)
		expectNone(t, negative(d))
	}
}

// Beyond the greatest Normal.
func TestWordNextToTheInfinity(t *testing.T) {
	expectWord(t, ones(53, 971), greatestNormal)
	for _, d := range []api.Dyad{
		of(1, 1024), ones(54, 970), of(1<<53+1, 971), of(1<<52+1, 972), of(3, 1023), of(1<<53-1, 972), of(1<<53-3, 972),
		of(1, 1025), of(1, 2047), of(1, 2048), of(5, 1022), ones(55, 969), ones(1024, 0), ends(1025, 0), ones(2000, -976),
	} {
		expectNone(t, d)
		expectNone(t, negative(d))
	}
}

// Exponents far away: among them those that are a multiple of 2048 or 4096
// from ones that words have.
func TestWordFarAway(t *testing.T) {
	for e := 1024; e <= api.MaxExp; e++ {
		expectNone(t, of(1, e))
		expectNone(t, of(-5, -min(e+53, api.MaxExp)))
	}
	for _, n := range []int{1, 2, 52, 53, 54, 64, 65, 4000, api.MaxBits} {
		for _, e := range []int{api.MaxExp, api.MaxExp - 1, api.MaxExp / 2, 1 << 17, 1 << 12, 1<<11 + 64} {
			expectNone(t, ones(n, e))
			expectNone(t, negative(ends(n, e)))
			expectNone(t, ones(n, -e))
			expectNone(t, negative(ends(n, -e)))
		}
	}
}

// Dyads of many words, whose tops lie where those of words do.
func TestWordOfManyWords(t *testing.T) {
	for n := 54; n <= api.MaxBits; n += 1 + n/7 {
		for top := -1080; top <= 1030; top += 31 {
			expectNone(t, ends(n, top-n))
			expectNone(t, negative(ones(n, top-n)))
		}
	}
	low := ends(api.MaxBits, 0)
	low.M[0] |= 1<<53 - 1
	expectNone(t, low)
	expectNone(t, ends(api.MaxBits, 0))
	expectNone(t, ones(api.MaxBits, -api.MaxBits))
}

func TestWordOfWhatIsNotPlain(t *testing.T) {
	for _, d := range notPlain() {
		if dyad.Plain(d) {
			t.Fatalf("%v is plain", show(d))
		}
		expectNone(t, d)
	}
}

// Any dyads: about half of them are numbers that words stand for.
func TestWordOfMany(t *testing.T) {
	s := &source{2}
	with := 0
	for range 200000 {
		m := []uint64{s.next() >> s.below(64), s.next() >> s.below(64)}[:1+s.below(8)/7]
		d, _ := dyad.Make(s.below(2) == 0, m, s.below(2400)-1230)
		b, ok := bits.Word(d)
		want, has := wordOf(d)
		if ok != has || b != want {
			t.Fatalf("Word(%v) = %x, %v, not %x, %v", d, b, ok, want, has)
		}
		if ok {
			with++
		}
	}
	if with < 50000 || with > 150000 {
		t.Errorf("words stand for %d of the numbers", with)
	}
}
