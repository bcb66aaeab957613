package dyad_test

import (
	"math"
	"math/big"
	"slices"
	"testing"

	"volvelle/api"
	"volvelle/dyad"
)

type list = []uint64

// A reference number is n times 2 to the e, whatever n and e are: answers are
// held against numbers of the library, not against the layer's own.
type number struct {
	n *big.Int
	e int
}

func bigOf(m list) *big.Int {
	n := new(big.Int)
	for i := len(m) - 1; i >= 0; i-- {
		n.Lsh(n, 64)
		n.Or(n, new(big.Int).SetUint64(m[i]))
	}
	return n
}

func wordsOf(n *big.Int) list {
	var m list
	rest, mask := new(big.Int).Abs(n), new(big.Int).SetUint64(math.MaxUint64)
	for rest.Sign() != 0 {
		m = append(m, new(big.Int).And(rest, mask).Uint64())
		rest.Rsh(rest, 64)
	}
	return m
}

func numberOf(d api.Dyad) number {
	n := bigOf(d.M)
	if d.Neg {
		n.Neg(n)
	}
	return number{n, d.E}
}

// plainOf answers the dyad that the chapter asks for where the number is to be
// answered: the zero value and false of one that has no plain form.
func plainOf(x number) (api.Dyad, bool) {
	if x.n.Sign() == 0 {
		return api.Dyad{}, true
	}
	size := new(big.Int).Abs(x.n)
	zeros := int(size.TrailingZeroBits())
	size.Rsh(size, uint(zeros))
	e := x.e + zeros
	if size.BitLen() > 16384 || e < -262144 || e > 262144 {
		return api.Dyad{}, false
	}
	return api.Dyad{Neg: x.n.Sign() < 0, M: wordsOf(size), E: e}, true
}

func same(a, b api.Dyad) bool {
	return a.Neg == b.Neg && a.E == b.E && slices.Equal(a.M, b.M)
}

// expect holds what a call answered against the number it should answer.
func expect(t *testing.T, got api.Dyad, ok bool, x number, what ...any) {
	t.Helper()
	want, wantOK := plainOf(x)
	if ok != wantOK || !same(got, want) {
		t.Fatalf("%v = %v, %v, not %v, %v", what, show(got), ok, show(want), wantOK)
	}
}

// refused holds what a call answered against the zero value and false.
func refused(t *testing.T, got api.Dyad, ok bool, what ...any) {
	t.Helper()
	if ok || !same(got, api.Dyad{}) {
		t.Errorf("%v = %v, %v, not refused", what, show(got), ok)
	}
}

func show(d api.Dyad) any {
	if len(d.M) > 8 {
		return []any{d.Neg, len(d.M), d.E}
	}
	return d
}

// of answers the plain dyad n times 2 to the e.
func of(n int64, e int) api.Dyad {
	d, _ := plainOf(number{big.NewInt(n), e})
	return d
}

// ones answers the dyad whose M has n bits, all of them 1.
func ones(n, e int) api.Dyad {
	m := make(list, (n+63)/64)
	for i := range n {
		m[i/64] |= 1 << (i % 64)
	}
	return api.Dyad{M: m, E: e}
}

func negative(d api.Dyad) api.Dyad {
	d.Neg = true
	return d
}

// ends answers the dyad whose M has n bits, the highest and the lowest 1.
func ends(n, e int) api.Dyad {
	m := make(list, (n+63)/64)
	m[0] |= 1
	m[(n-1)/64] |= 1 << ((n - 1) % 64)
	return api.Dyad{M: m, E: e}
}

// source gives numbers that are the same in each run.
type source struct{ state uint64 }

func (s *source) next() uint64 {
	s.state += 0x9E3779B97F4A7C15
	x := s.state
	x = (x ^ x>>30) * 0xBF58476D1CE4E5B9
	x = (x ^ x>>27) * 0x94D049BB133111EB
	return x ^ x>>31
}

func (s *source) below(n int) int {
	return int(s.next() % uint64(n))
}

// m answers a list of up to n bits, now and then with long rows of zeros or
// ones, and not trimmed.
func (s *source) m(n int) list {
	m := make(list, s.below(n/64+2))
	for i := range m {
		switch s.below(4) {
		case 0:
		case 1:
			m[i] = math.MaxUint64
		default:
			m[i] = s.next() >> s.below(64)
		}
	}
	return m
}

// dyad answers a plain one of up to n bits, with E up to e in size.
func (s *source) dyad(n, e int) api.Dyad {
	x := bigOf(s.m(n))
	x.Rsh(x, uint(max(x.BitLen()-n, 0)))
	if s.below(2) == 0 {
		x.Neg(x)
	}
	d, _ := plainOf(number{x, 0})
	if len(d.M) > 0 {
		d.E = s.below(2*e+1) - e
	}
	return d
}

// notPlain answers dyads that miss the plain form in each way there is.
func notPlain() []api.Dyad {
	return []api.Dyad{
		{E: 1},
		{E: -1},
		{Neg: true},
		{Neg: true, M: list{}},
		{M: list{0}},
		{M: list{0, 0}},
		{M: list{2}},
		{M: list{0, 1}},
		{M: list{1, 0}},
		{Neg: true, M: list{1, 0, 0}},
		ones(api.MaxBits+1, 0),
		ends(api.MaxBits+1, 5),
		ones(api.MaxBits+64, 0),
		{M: list{1}, E: api.MaxExp + 1},
		{M: list{1}, E: -api.MaxExp - 1},
		{M: list{3}, E: math.MaxInt},
		{Neg: true, M: list{3}, E: math.MinInt},
	}
}

// edges answers plain dyads at the bounds, and small ones.
func edges() []api.Dyad {
	l := []api.Dyad{{}, {M: list{}}}
	for _, d := range []api.Dyad{
		of(1, 0), of(1, 1), of(1, -1), of(3, 0), of(3, -1), of(5, -4), of(7, 62), of(7, -63),
		ones(64, 0), ones(65, -64), ends(65, 3), ends(128, -1),
		ones(api.MaxPrec, 0), ones(api.MaxPrec+1, -4), ends(api.MaxPrec+1, 0),
		ones(api.MaxBits, 0), ends(api.MaxBits, -100), ones(api.MaxBits/2, 7), ends(api.MaxBits/2+1, 7),
		of(1, api.MaxExp), of(1, -api.MaxExp), of(3, api.MaxExp), of(3, -api.MaxExp),
		of(1, api.MaxExp/2), of(1, -api.MaxExp/2), of(5, api.MaxExp-1), of(5, 1-api.MaxExp),
		ones(api.MaxBits, api.MaxExp), ones(api.MaxBits, -api.MaxExp), ends(api.MaxBits, api.MaxExp),
	} {
		l = append(l, d, negative(d))
	}
	return l
}

// orFail answers a function that takes what a call answers, and hands on its
// dyad, which has to be plain.
func orFail(t *testing.T) func(d api.Dyad, ok bool) api.Dyad {
	return func(d api.Dyad, ok bool) api.Dyad {
		t.Helper()
		if !ok || !dyad.Plain(d) {
			t.Fatalf("%v, %v, where a plain dyad is asked for", show(d), ok)
		}
		return d
	}
}
