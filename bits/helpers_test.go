package bits_test

import (
	"math"
	"math/big"
	"slices"
	"testing"

	"volvelle/api"
	"volvelle/bits"
	"volvelle/dyad"
)

const (
	sign           uint64 = 1 << 63
	greatestSmall  uint64 = 1<<52 - 1
	leastNormal    uint64 = 1 << 52
	greatestNormal uint64 = 0x7FEFFFFFFFFFFFFF
	infinity       uint64 = 0x7FF0000000000000
)

// source gives numbers that are the same in each run.
type source struct{ state uint64 }

func (s *source) next() uint64 {
	s.state += 0x9E3779B97F4A7C15
	x := s.state
	x = (x ^ x>>30) * 0xBF58476D1CE4E5B9
	x = (x ^ x>>27) * 0x94D049BB133111EB
	return x ^ x>>31
}

func (s *source) below(n int) int {
	return int(s.next() % uint64(n))
}

// word answers one of any kind: some with few bits, near an end of an exponent,
// or of the exponents 0 and 2047.
func (s *source) word() uint64 {
	b := s.next()
	switch s.below(8) {
	case 0:
		return b &^ infinity
	case 1:
		return b | infinity
	case 2:
		return b & (sign | infinity | 1<<s.below(52))
	case 3:
		return b&(sign|infinity) + uint64(s.below(9)) - 4
	case 4:
		return b & (sign | greatestSmall>>s.below(52))
	}
	return b
}

// withSigns answers each word with either sign.
func withSigns(l ...uint64) []uint64 {
	var both []uint64
	for _, b := range l {
		both = append(both, b, b|sign)
	}
	return both
}

// noNumbers answers words of the kind NotOne, of either sign: each bit of the
// fraction alone, all of them, some.
func noNumbers() []uint64 {
	l := []uint64{api.NaN, infinity | greatestSmall, infinity | 1<<51 - 1, 0x7FFC0FFEE0000001, 0x7FF0000100000000}
	for i := range 52 {
		l = append(l, infinity|1<<i)
	}
	return withSigns(l...)
}

// edges answers the words that stand for numbers, of either sign, at the ends of
// their kinds, and powers of two with their neighbours.
func edges() []uint64 {
	l := []uint64{0, 1, 2, 3, 4, 5, greatestSmall - 1, greatestSmall, leastNormal, leastNormal + 1, leastNormal + 2,
		greatestNormal, greatestNormal - 1, 0x3FF8000000000000, 0x4008000000000000, 0x433FFFFFFFFFFFFF, 0x400921FB54442D18}
	for i := range 52 {
		l = append(l, 1<<i, 1<<i+1, 1<<i-1)
	}
	for e := uint64(1); e <= 2046; e++ {
		l = append(l, e<<52, e<<52+1, e<<52-1)
	}
	return withSigns(l...)
}

// many answers the edges, the infinities, what is no number, and other words.
func many() []uint64 {
	l := append(edges(), withSigns(infinity)...)
	l = append(l, noNumbers()...)
	s := &source{1}
	for range 50000 {
		l = append(l, s.word())
	}
	return l
}

// numbers answers those of many that stand for numbers.
func numbers() []uint64 {
	return slices.DeleteFunc(many(), func(b uint64) bool {
		return b&infinity == infinity
	})
}

// of answers the plain dyad n times 2 to the e.
func of(n int64, e int) api.Dyad {
	d, _ := dyad.Make(n < 0, []uint64{uint64(max(n, -n))}, e)
	return d
}

// ends answers the dyad whose M has n bits, the highest and the lowest 1.
func ends(n, e int) api.Dyad {
	m := make([]uint64, (n+63)/64)
	m[0] |= 1
	m[(n-1)/64] |= 1 << ((n - 1) % 64)
	return api.Dyad{M: m, E: e}
}

// ones answers the dyad whose M has n bits, all of them 1.
func ones(n, e int) api.Dyad {
	m := make([]uint64, (n+63)/64)
	for i := range n {
		m[i/64] |= 1 << (i % 64)
	}
	return api.Dyad{M: m, E: e}
}

func negative(d api.Dyad) api.Dyad {
	d.Neg = true
	return d
}

func same(a, b api.Dyad) bool {
	return a.Neg == b.Neg && a.E == b.E && slices.Equal(a.M, b.M)
}

// exactly answers the number of a plain dyad as the library has it, which is
// what answers are held against.
func exactly(d api.Dyad) *big.Float {
	n := new(big.Int)
	for i := len(d.M) - 1; i >= 0; i-- {
		n.Lsh(n, 64)
		n.Or(n, new(big.Int).SetUint64(d.M[i]))
	}
	x := new(big.Float).SetPrec(uint(max(n.BitLen(), 1))).SetInt(n)
	x.SetMantExp(x, d.E)
	if d.Neg {
		x.Neg(x)
	}
	return x
}

// wordOf answers the word that the library has for a dyad, 0 and false if it
// has none.
func wordOf(d api.Dyad) (uint64, bool) {
	f, how := exactly(d).Float64()
	if how != big.Exact {
		return 0, false
	}
	return math.Float64bits(f), true
}

// notPlain answers dyads that miss the plain form in each way there is.
func notPlain() []api.Dyad {
	l := []api.Dyad{
		{E: 1}, {E: -1}, {E: -1074}, {Neg: true}, {Neg: true, M: []uint64{}}, {M: []uint64{}, E: math.MinInt},
		{M: []uint64{0}}, {M: []uint64{0, 0}}, {M: []uint64{2}}, {M: []uint64{1 << 52}, E: -1074}, {M: []uint64{6}, E: -1},
		{M: []uint64{0, 1}}, {M: []uint64{0, 1}, E: -64}, {M: []uint64{1, 0}}, {M: []uint64{3, 0, 0}, E: -1},
		{M: append([]uint64{1}, make([]uint64, 300)...)}, {M: make([]uint64, 1<<16)},
		ones(api.MaxBits+1, 0), ends(api.MaxBits+1, -api.MaxBits), ones(api.MaxBits+64, -1074),
	}
	for _, e := range []int{api.MaxExp + 1, -api.MaxExp - 1, math.MaxInt, math.MaxInt - 63, math.MinInt, math.MinInt + 63} {
		l = append(l, api.Dyad{M: []uint64{1}, E: e}, api.Dyad{M: []uint64{greatestSmall}, E: e}, ones(100, e))
	}
	for _, d := range slices.Clone(l) {
		if len(d.M) > 0 {
			l = append(l, negative(d))
		}
	}
	return l
}

// expectWord holds what Word answers of d against a word.
func expectWord(t *testing.T, d api.Dyad, want uint64) {
	t.Helper()
	if b, ok := bits.Word(d); !ok || b != want {
		t.Fatalf("Word(%v) = %x, %v, not %x", show(d), b, ok, want)
	}
}

// expectNone holds what Word answers of d against 0 and false.
func expectNone(t *testing.T, d api.Dyad) {
	t.Helper()
	if b, ok := bits.Word(d); ok || b != 0 {
		t.Fatalf("Word(%v) = %x, %v, where no word stands for it", show(d), b, ok)
	}
}

func show(d api.Dyad) any {
	if len(d.M) > 8 {
		return []any{d.Neg, len(d.M), d.E}
	}
	return d
}

// numberOf answers the number of a word, which has to be a plain one.
func numberOf(t *testing.T, b uint64) api.Dyad {
	t.Helper()
	d, ok := bits.Number(b)
	if !ok || !dyad.Plain(d) {
		t.Fatalf("Number(%x) = %v, %v", b, show(d), ok)
	}
	return d
}
