package span_test

import (
	"math"
	"math/big"
	"slices"
	"testing"

	"volvelle/api"
	"volvelle/span"
)

type list = []uint64

const (
	down = false
	up   = true
)

// A reference number is above over below, times 2 to the e, whatever these
// are (but below is above 0): answers are held against whole numbers of the
// library, not against those of the layers below.
type number struct {
	above, below *big.Int
	e            int
}

func bigOf(m list) *big.Int {
	n := new(big.Int)
	for i := len(m) - 1; i >= 0; i-- {
		n.Lsh(n, 64)
		n.Or(n, new(big.Int).SetUint64(m[i]))
	}
	return n
}

func wordsOf(n *big.Int) list {
	var m list
	rest, mask := new(big.Int).Abs(n), new(big.Int).SetUint64(math.MaxUint64)
	for rest.Sign() != 0 {
		m = append(m, new(big.Int).And(rest, mask).Uint64())
		rest.Rsh(rest, 64)
	}
	return m
}

func whole(n *big.Int, e int) number {
	return number{n, big.NewInt(1), e}
}

func numberOf(d api.Dyad) number {
	n := bigOf(d.M)
	if d.Neg {
		n.Neg(n)
	}
	return whole(n, d.E)
}

// raised answers x's n where its exponent is brought down to e.
func (x number) raised(e int) *big.Int {
	if x.above.Sign() == 0 {
		return x.above
	}
	return new(big.Int).Lsh(x.above, uint(x.e-e))
}

// least answers the lesser exponent, in which a 0 has no part.
func least(x, y number) int {
	switch {
	case x.above.Sign() == 0:
		return y.e
	case y.above.Sign() == 0:
		return x.e
	}
	return min(x.e, y.e)
}

func sumOf(x, y number) number {
	e := least(x, y)
	return whole(new(big.Int).Add(x.raised(e), y.raised(e)), e)
}

func differenceOf(x, y number) number {
	e := least(x, y)
	return whole(new(big.Int).Sub(x.raised(e), y.raised(e)), e)
}

func productOf(x, y number) number {
	return whole(new(big.Int).Mul(x.above, y.above), x.e+y.e)
}

func quotientOf(x, y number) number {
	above, below := new(big.Int).Set(x.above), new(big.Int).Set(y.above)
	if below.Sign() < 0 {
		above.Neg(above)
		below.Neg(below)
	}
	return number{above, below, x.e - y.e}
}

// compare answers -1, 0 or 1: x is below y, the same, above.
func compare(x, y number) int {
	if s := x.above.Sign() - y.above.Sign(); s != 0 || x.above.Sign() == 0 {
		return min(max(s, -1), 1)
	}
	left := whole(new(big.Int).Mul(x.above, y.below), x.e)
	right := whole(new(big.Int).Mul(y.above, x.below), y.e)
	// What differs in its highest bit needn't be brought to one exponent.
	if high := left.e + left.above.BitLen() - right.e - right.above.BitLen(); high != 0 {
		if high > 0 {
			return x.above.Sign()
		}
		return -x.above.Sign()
	}
	e := least(left, right)
	return left.raised(e).Cmp(right.raised(e))
}

// floorOf answers the greatest number of p bits that isn't above x (up: the
// least that isn't below).
func floorOf(x number, p int, up bool) number {
	if x.above.Sign() == 0 {
		return whole(new(big.Int), 0)
	}
	// 2^k isn't above the size of the quotient, and 2^(k+1) is.
	k := x.above.BitLen() - x.below.BitLen()
	if cmpPower(x.above, x.below, k) < 0 {
		k--
	}
	last := k - p + 1
	above, below := new(big.Int).Set(x.above), new(big.Int).Set(x.below)
	if last < 0 {
		above.Lsh(above, uint(-last))
	} else {
		below.Lsh(below, uint(last))
	}
	// DivMod is cut downwards, as below is above 0.
	quotient, rest := new(big.Int).DivMod(above, below, new(big.Int))
	if up && rest.Sign() != 0 {
		quotient.Add(quotient, big.NewInt(1))
	}
	return whole(quotient, last+x.e)
}

// cmpPower holds the size of above over below against 2 to the k.
func cmpPower(above, below *big.Int, k int) int {
	x, y := new(big.Int).Set(above), new(big.Int).Set(below)
	if k >= 0 {
		y.Lsh(y, uint(k))
	} else {
		x.Lsh(x, uint(-k))
	}
	return x.CmpAbs(y)
}

// rootOf is floorOf of the root of x, which is whole and not below 0.
func rootOf(x number, p int, up bool) number {
	if x.above.Sign() == 0 {
		return x
	}
	// The root is below 2 to the k, and not below half of that.
	size := x.above.BitLen() + x.e
	k := (size + size&1) / 2
	last := k - p
	n, lost := new(big.Int).Set(x.above), false
	if move := x.e - 2*last; move >= 0 {
		n.Lsh(n, uint(move))
	} else {
		lost = int(n.TrailingZeroBits()) < -move
		n.Rsh(n, uint(-move))
	}
	root := new(big.Int).Sqrt(n)
	lost = lost || new(big.Int).Mul(root, root).Cmp(n) != 0
	if up && lost {
		root.Add(root, big.NewInt(1))
	}
	return whole(root, last)
}

// plainOf answers the dyad that is to be answered for a whole x: the zero value
// and false of one that has no plain form.
func plainOf(x number) (api.Dyad, bool) {
	if x.above.Sign() == 0 {
		return api.Dyad{}, true
	}
	size := new(big.Int).Abs(x.above)
	zeros := int(size.TrailingZeroBits())
	size.Rsh(size, uint(zeros))
	e := x.e + zeros
	if size.BitLen() > 16384 || e < -262144 || e > 262144 {
		return api.Dyad{}, false
	}
	return api.Dyad{Neg: x.above.Sign() < 0, M: wordsOf(size), E: e}, true
}

// spanOf answers the span that is to be answered, and whether there is one.
func spanOf(lo, hi number) (api.Span, bool) {
	low, okLow := plainOf(lo)
	high, okHigh := plainOf(hi)
	if !okLow || !okHigh {
		return api.Span{}, false
	}
	return api.Span{Lo: low, Hi: high}, true
}

func sameDyad(a, b api.Dyad) bool {
	return a.Neg == b.Neg && a.E == b.E && slices.Equal(a.M, b.M)
}

func same(a, b api.Span) bool {
	return sameDyad(a.Lo, b.Lo) && sameDyad(a.Hi, b.Hi)
}

// of answers the plain dyad n times 2 to the e.
func of(n int64, e int) api.Dyad {
	d, _ := plainOf(whole(big.NewInt(n), e))
	return d
}

// ones answers the dyad whose M has n bits, all of them 1.
func ones(n, e int) api.Dyad {
	m := make(list, (n+63)/64)
	for i := range n {
		m[i/64] |= 1 << (i % 64)
	}
	return api.Dyad{M: m, E: e}
}

// ends answers the dyad whose M has n bits, the highest and the lowest 1.
func ends(n, e int) api.Dyad {
	m := make(list, (n+63)/64)
	m[0] |= 1
	m[(n-1)/64] |= 1 << ((n - 1) % 64)
	return api.Dyad{M: m, E: e}
}

func negative(d api.Dyad) api.Dyad {
	d.Neg = len(d.M) > 0
	return d
}

func point(d api.Dyad) api.Span {
	return api.Span{Lo: d, Hi: d}
}

// between answers the span of both dyads, in whatever order they are.
func between(a, b api.Dyad) api.Span {
	if compare(numberOf(a), numberOf(b)) > 0 {
		a, b = b, a
	}
	return api.Span{Lo: a, Hi: b}
}

// ints answers the span of two integers.
func ints(a, b int64) api.Span {
	return api.Span{Lo: of(a, 0), Hi: of(b, 0)}
}

func show(l ...api.Span) []any {
	var out []any
	for _, a := range l {
		for _, d := range []api.Dyad{a.Lo, a.Hi} {
			if len(d.M) > 8 {
				out = append(out, []any{d.Neg, len(d.M), d.E})
			} else {
				out = append(out, d)
			}
		}
	}
	return out
}

// A call of the layer, with its spans handed in already.
type call = func(w *span.Work) api.Span

// expect makes the call with a work of p bits, and holds it against what is to
// be answered: a span and a work that isn't bad, or the zero value and a bad
// one.
func expect(t *testing.T, p int, made call, want api.Span, ok bool, what ...any) {
	t.Helper()
	w := &span.Work{P: p}
	got := made(w)
	if !same(got, want) || w.Bad == ok || w.P != p {
		t.Fatalf("%v with %d bits: %v, %+v, not %v, %v", what, p, show(got), *w, show(want), ok)
	}
}

// refused makes the call with the work, and holds it against the zero value
// and a bad work whose P is as it was.
func refused(t *testing.T, w span.Work, made call, what ...any) {
	t.Helper()
	p := w.P
	if got := made(&w); !same(got, api.Span{}) || !w.Bad || w.P != p {
		t.Errorf("%v with %d bits: %v, %+v, not refused", what, p, show(got), w)
	}
}

// source gives numbers that are the same in each run.
type source struct{ state uint64 }

func (s *source) next() uint64 {
	s.state += 0x9E3779B97F4A7C15
	x := s.state
	x = (x ^ x>>30) * 0xBF58476D1CE4E5B9
	x = (x ^ x>>27) * 0x94D049BB133111EB
	return x ^ x>>31
}

func (s *source) below(n int) int {
	return int(s.next() % uint64(n))
}

// dyad answers a plain one of up to n bits, now and then 0 or with long rows of
// ones, with E up to e in size.
func (s *source) dyad(n, e int) api.Dyad {
	m := make(list, s.below(n/64+2))
	for i := range m {
		m[i] = s.next() >> s.below(64)
		if s.below(4) == 0 {
			m[i] = math.MaxUint64
		}
	}
	x := bigOf(m)
	x.Rsh(x, uint(max(x.BitLen()-n, 0)))
	if s.below(2) == 0 {
		x.Neg(x)
	}
	d, _ := plainOf(whole(x, 0))
	if len(d.M) > 0 {
		d.E = s.below(2*e+1) - e
	}
	return d
}

// span answers a right one, now and then of one number alone.
func (s *source) span(n, e int) api.Span {
	a := s.dyad(n, e)
	if s.below(5) == 0 {
		return point(a)
	}
	return between(a, s.dyad(n, e))
}

// inside answers a dyad of the span: an end, or one between.
func (s *source) inside(a api.Span) api.Dyad {
	lo, hi := numberOf(a.Lo), numberOf(a.Hi)
	gap := differenceOf(hi, lo)
	parts := int64(1 + s.below(1000))
	part := whole(new(big.Int).Mul(gap.above, big.NewInt(s.next63()%(parts+1))), gap.e)
	// Divided by a power of 2, so that it stays a dyad.
	part.e -= big.NewInt(parts).BitLen()
	if s.below(4) == 0 {
		part = gap
	}
	d, _ := plainOf(sumOf(lo, part))
	return d
}

func (s *source) next63() int64 {
	return int64(s.next() >> 1)
}

// notPlain answers dyads that miss the plain form in each way there is.
func notPlain() []api.Dyad {
	return []api.Dyad{
		{E: 1},
		{E: -1},
		{Neg: true},
		{Neg: true, M: list{}},
		{M: list{0}},
		{M: list{0, 0}},
		{M: list{2}},
		{M: list{0, 1}},
		{M: list{1, 0}},
		{Neg: true, M: list{1, 0, 0}},
		ones(api.MaxBits+1, 0),
		ends(api.MaxBits+1, 5),
		{M: list{1}, E: api.MaxExp + 1},
		{M: list{1}, E: -api.MaxExp - 1},
		{M: list{3}, E: math.MaxInt},
		{Neg: true, M: list{3}, E: math.MinInt},
	}
}

// notRight answers spans with an end that isn't plain, and spans that are
// upside down.
func notRight() []api.Span {
	l := []api.Span{
		ints(1, 0), ints(0, -1), ints(1, -1), ints(-1, -2), ints(3, 2),
		{Lo: of(1, -api.MaxExp)},
		{Hi: of(-1, -api.MaxExp)},
		{Lo: of(1, api.MaxExp), Hi: of(1, -api.MaxExp)},
		{Lo: of(1, 1), Hi: ones(70, -70)},
		{Lo: ends(api.MaxBits, 0), Hi: of(1, api.MaxBits-1)},
	}
	for _, d := range notPlain() {
		l = append(l, api.Span{Lo: d, Hi: of(1, api.MaxExp)}, api.Span{Lo: of(-1, api.MaxExp), Hi: d}, point(d))
	}
	return l
}

// edges answers right spans whose ends are small, or at the bounds.
func edges() []api.Span {
	var l []api.Span
	dyads := []api.Dyad{
		{}, of(1, 0), of(-1, 0), of(3, -1), of(-5, 2), ones(65, -64), negative(ends(130, 0)),
		of(1, api.MaxExp), of(-3, api.MaxExp), of(1, -api.MaxExp), of(-3, -api.MaxExp),
		ones(api.MaxBits, 0), negative(ends(api.MaxBits, -api.MaxExp)),
	}
	for i, a := range dyads {
		for _, b := range dyads[i:] {
			l = append(l, between(a, b))
		}
	}
	return l
}

// small answers all spans of integers up to n in size.
func small(n int64) []api.Span {
	var l []api.Span
	for a := -n; a <= n; a++ {
		for b := a; b <= n; b++ {
			l = append(l, ints(a, b))
		}
	}
	return l
}
