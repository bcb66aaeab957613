package round_test

import (
	"math"
	"math/big"
	"slices"
	"sort"
	"testing"

	"volvelle/api"
	"volvelle/bits"
	"volvelle/dyad"
	"volvelle/round"
)

const (
	sign           uint64 = 1 << 63
	greatestSmall  uint64 = 1<<52 - 1
	leastNormal    uint64 = 1 << 52
	greatestNormal uint64 = 0x7FEFFFFFFFFFFFFF
	infinity       uint64 = 0x7FF0000000000000

	inexact   = api.Inexact
	overflow  = api.Inexact | api.Overflow
	underflow = api.Inexact | api.Underflow
)

var modes = [5]int{api.Even, api.Cut, api.Up, api.Down, api.Away}

// wrongModes answers integers that name no mode.
func wrongModes() []int {
	return []int{-1, 5, 6, 7, 8, 255, 256, 1 << 32, 1<<32 + 1, -256, math.MaxInt, math.MinInt, math.MinInt + 4}
}

// source gives numbers that are the same in each run.
type source struct{ state uint64 }

func (s *source) next() uint64 {
	s.state += 0x9E3779B97F4A7C15
	x := s.state
	x = (x ^ x>>30) * 0xBF58476D1CE4E5B9
	x = (x ^ x>>27) * 0x94D049BB133111EB
	return x ^ x>>31
}

func (s *source) below(n int) int {
	return int(s.next() % uint64(n))
}

// word answers one of sign 0 that stands for a number, often at an end of an
// exponent, next to 0, or next to the infinity.
func (s *source) word() uint64 {
	b := s.next() % infinity
	switch s.below(8) {
	case 0:
		return b & greatestSmall
	case 1:
		return (b&infinity + uint64(s.below(9))) % infinity
	case 2:
		return b | greatestSmall
	case 3:
		return b & (greatestSmall >> s.below(52))
	case 4:
		return greatestNormal - uint64(s.below(4))
	}
	return b
}

// dyad answers one of either sign in or next to the gap behind a word: at its
// ends, in its middle, just to a side of these, or anywhere.
func (s *source) dyad(t *testing.T) api.Dyad {
	b := s.word()
	d := within(t, b, int64(s.below(9)), 3)
	switch s.below(4) {
	case 0:
		d = within(t, b, int64(s.next()>>4), 60)
	case 1:
		little := of(int64(s.below(2)*2-1), max(d.E-s.below(200), -api.MaxExp))
		d = plain(t)(dyad.Sum(d, little))
	case 2:
		d = plain(t)(dyad.Sum(d, of(int64(s.below(2)*2-1), -1100-s.below(10000))))
	}
	if s.below(2) == 0 {
		d = minus(d)
	}
	return d
}

// of answers the plain dyad n times 2 to the e.
func of(n int64, e int) api.Dyad {
	d, _ := dyad.Make(n < 0, []uint64{uint64(max(n, -n))}, e)
	return d
}

// ends answers the dyad whose M has n bits, the highest and the lowest 1.
func ends(n, e int) api.Dyad {
	m := make([]uint64, (n+63)/64)
	m[0] |= 1
	m[(n-1)/64] |= 1 << ((n - 1) % 64)
	return api.Dyad{M: m, E: e}
}

// ones answers the dyad whose M has n bits, all of them 1.
func ones(n, e int) api.Dyad {
	m := make([]uint64, (n+63)/64)
	for i := range n {
		m[i/64] |= 1 << (i % 64)
	}
	return api.Dyad{M: m, E: e}
}

// minus answers the number with the other sign.
func minus(d api.Dyad) api.Dyad {
	if len(d.M) > 0 {
		d.Neg = !d.Neg
	}
	return d
}

// plain hands on the dyad that a call answers, which has to be a plain one.
func plain(t *testing.T) func(d api.Dyad, ok bool) api.Dyad {
	return func(d api.Dyad, ok bool) api.Dyad {
		t.Helper()
		if !ok || !dyad.Plain(d) {
			t.Fatalf("%v, %v, where a plain dyad is asked for", show(d), ok)
		}
		return d
	}
}

func sum(t *testing.T, l ...api.Dyad) api.Dyad {
	t.Helper()
	return plain(t)(dyad.Sum(l...))
}

// numberOf answers the number of a word; of an infinity 2^1024 with its sign,
// where the word behind the greatest number would stand.
func numberOf(t *testing.T, b uint64) api.Dyad {
	t.Helper()
	switch b {
	case infinity:
		return of(1, 1024)
	case infinity | sign:
		return of(-1, 1024)
	}
	return plain(t)(bits.Number(b))
}

// within answers the number part/2^n of the way from the number of a word to
// that of the word behind it, away from 0.
func within(t *testing.T, b uint64, part int64, n int) api.Dyad {
	t.Helper()
	low, high := numberOf(t, b), numberOf(t, b+1)
	gap := sum(t, high, minus(low))
	return sum(t, low, plain(t)(dyad.Mul(gap, of(part, -n))))
}

func compare(t *testing.T, a, b api.Dyad) int {
	t.Helper()
	order, ok := dyad.Cmp(a, b)
	if !ok {
		t.Fatalf("%v and %v aren't compared", show(a), show(b))
	}
	return order
}

func isWord(d api.Dyad) bool {
	_, ok := bits.Word(d)
	return ok
}

func show(d api.Dyad) any {
	if len(d.M) > 8 {
		return []any{d.Neg, len(d.M), d.E}
	}
	return d
}

func showSpan(a api.Span) any {
	return []any{show(a.Lo), show(a.Hi)}
}

// told is what is told of a number in one mode.
type told struct {
	word  uint64
	flags int
}

// exactly answers the number of a plain dyad as the library has it.
func exactly(d api.Dyad) *big.Float {
	n := new(big.Int)
	for i := len(d.M) - 1; i >= 0; i-- {
		n.Lsh(n, 64)
		n.Or(n, new(big.Int).SetUint64(d.M[i]))
	}
	x := new(big.Float).SetPrec(uint(max(n.BitLen(), 1))).SetInt(n)
	x.SetMantExp(x, d.E)
	if d.Neg {
		x.Neg(x)
	}
	return x
}

// sizeOf answers the number of a word of sign 0, of the infinity 2^1024.
func sizeOf(b uint64) *big.Float {
	if b == infinity {
		return new(big.Float).SetMantExp(big.NewFloat(1), 1024)
	}
	return big.NewFloat(math.Float64frombits(b))
}

// expected answers what is to be told of a plain dyad in each mode. It looks
// for the words about it among all that there are, and asks the library how the
// number is rounded without a bound for exponents.
func expected(d api.Dyad) (all [5]told) {
	x := exactly(d)
	if x.Sign() == 0 {
		return all
	}
	size := new(big.Float).Abs(x)
	low := uint64(sort.Search(int(infinity), func(i int) bool {
		return sizeOf(uint64(i)).Cmp(size) > 0
	}) - 1)
	for mode := range all {
		word := low
		if sizeOf(low).Cmp(size) != 0 {
			if outward(mode, low, size, d.Neg) {
				word++
			}
			all[mode].flags = flagsOf(x, mode)
		}
		if d.Neg {
			word |= sign
		}
		all[mode].word = word
	}
	return all
}

// outward: is a size between a word's number and the next rounded to that?
func outward(mode int, low uint64, size *big.Float, neg bool) bool {
	middle := new(big.Float).SetPrec(64).Add(sizeOf(low), sizeOf(low+1))
	side := size.Cmp(middle.Quo(middle, big.NewFloat(2)))
	switch mode {
	case api.Even:
		return side > 0 || side == 0 && low%2 != 0
	case api.Up:
		return !neg
	case api.Down:
		return neg
	case api.Away:
		return side >= 0
	}
	return false
}

func flagsOf(x *big.Float, mode int) int {
	how := [5]big.RoundingMode{big.ToNearestEven, big.ToZero, big.ToPositiveInf, big.ToNegativeInf, big.ToNearestAway}[mode]
	free := new(big.Float).SetMode(how).SetPrec(53).Set(x)
	flags := api.Inexact
	if free.Abs(free).Cmp(sizeOf(infinity)) >= 0 {
		flags |= api.Overflow
	}
	if new(big.Float).Abs(x).Cmp(sizeOf(leastNormal)) < 0 {
		flags |= api.Underflow
	}
	return flags
}

// notPlain answers dyads that miss the plain form in each way there is.
func notPlain() []api.Dyad {
	l := []api.Dyad{
		{E: 1}, {E: -1}, {E: -1074}, {Neg: true}, {Neg: true, M: []uint64{}}, {M: []uint64{}, E: math.MinInt},
		{M: []uint64{0}}, {M: []uint64{0, 0}}, {M: []uint64{2}}, {M: []uint64{1 << 52}, E: -1074}, {M: []uint64{6}, E: -1},
		{M: []uint64{0, 1}}, {M: []uint64{0, 1}, E: -64}, {M: []uint64{1, 0}}, {M: []uint64{3, 0, 0}, E: -1},
		{M: append([]uint64{1}, make([]uint64, 300)...)}, {M: make([]uint64, 1<<16)},
		ones(api.MaxBits+1, 0), ends(api.MaxBits+1, -api.MaxBits), ones(api.MaxBits+64, -1074),
	}
	for _, e := range []int{api.MaxExp + 1, -api.MaxExp - 1, math.MaxInt, math.MaxInt - 63, math.MinInt, math.MinInt + 63} {
		l = append(l, api.Dyad{M: []uint64{1}, E: e}, api.Dyad{M: []uint64{greatestSmall}, E: e}, ones(100, e))
	}
	for _, d := range slices.Clone(l) {
		if len(d.M) > 0 {
			l = append(l, minus(d))
		}
	}
	return l
}

// expect holds what Exact answers against a word and flags.
func expect(t *testing.T, d api.Dyad, mode int, want told) {
	t.Helper()
	word, flags, ok := round.Exact(d, mode)
	if !ok || word != want.word || flags != want.flags {
		t.Fatalf("Exact(%v, %d) = %x, %d, %v, not %x, %d", show(d), mode, word, flags, ok, want.word, want.flags)
	}
}

// expectAll holds what Exact answers in each mode against words and flags, and,
// with the other sign, against these with Up and Down changed.
func expectAll(t *testing.T, d api.Dyad, want [5]told) {
	t.Helper()
	turned := [5]int{api.Even, api.Cut, api.Down, api.Up, api.Away}
	for _, mode := range modes {
		expect(t, d, mode, want[mode])
		if len(d.M) > 0 {
			other := want[turned[mode]]
			expect(t, minus(d), mode, told{other.word ^ sign, other.flags})
		}
	}
}

// alike answers one word and flags for each mode.
func alike(word uint64, flags int) (all [5]told) {
	for mode := range all {
		all[mode] = told{word, flags}
	}
	return all
}

// five answers what is told of a number above 0 in the modes 0 to 4, with the
// same flags in each.
func five(flags int, even, cut, up, down, away uint64) [5]told {
	return [5]told{{even, flags}, {cut, flags}, {up, flags}, {down, flags}, {away, flags}}
}
