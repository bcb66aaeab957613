package cmath_test

import (
	"math"
	"math/big"
	"testing"

	"volvelle/api"
	"volvelle/cmath"
)

// P14.1 and P0.1: products, quotients, distances and roots by whole numbers
// alone. All numbers of words, and the middles between them, are whole times
// 2^-1075.

const unit = 1075

// whole answers a number over 2^-1075.
func whole(m *big.Float) *big.Int {
	n, accuracy := new(big.Float).SetPrec(64).SetMantExp(m, unit).Int(nil)
	if accuracy != big.Exact {
		panic("not whole")
	}
	return n
}

func wholeOf(b uint64) *big.Int {
	return whole(numeral(b))
}

func times(a, b *big.Int) *big.Int {
	return new(big.Int).Mul(a, b)
}

func plus(a, b *big.Int) *big.Int {
	return new(big.Int).Add(a, b)
}

func less(a, b *big.Int) *big.Int {
	return new(big.Int).Sub(a, b)
}

func shifted(a *big.Int, n uint) *big.Int {
	return new(big.Int).Lsh(a, n)
}

// overUnits holds a number of units squared against others.
func overUnits(n *big.Int) against {
	return func(m *big.Float) int { return n.Cmp(shifted(whole(m), unit)) }
}

func product(l [4]*big.Int) [2]against {
	x, y, u, v := l[0], l[1], l[2], l[3]
	return [2]against{overUnits(less(times(x, u), times(y, v))), overUnits(plus(times(x, v), times(y, u)))}
}

// fraction holds a quotient against numbers.
func fraction(n, by *big.Int) against {
	n = shifted(n, unit)
	return func(m *big.Float) int { return n.Cmp(times(whole(m), by)) }
}

func quotient(l [4]*big.Int) [2]against {
	x, y, u, v := l[0], l[1], l[2], l[3]
	by := plus(times(u, u), times(v, v))
	return [2]against{fraction(plus(times(x, u), times(y, v)), by), fraction(less(times(y, u), times(x, v)), by)}
}

func distance(l [4]*big.Int) [2]against {
	square := plus(times(l[0], l[0]), times(l[1], l[1]))
	first := func(m *big.Float) int {
		if m.Sign() < 0 {
			return 1
		}
		n := whole(m)
		return square.Cmp(times(n, n))
	}
	return [2]against{first, overUnits(new(big.Int))}
}

// rootOf holds the root of half of r and x, with r as the distance of (x, y),
// against numbers: m is below it, if r is above 2 m² - x.
func rootOf(x, y *big.Int) against {
	square := shifted(plus(times(x, x), times(y, y)), 2*(unit-1))
	return func(m *big.Float) int {
		if m.Sign() < 0 {
			return 1
		}
		n := whole(m)
		rest := less(times(n, n), shifted(x, unit-1))
		if rest.Sign() < 0 {
			return 1
		}
		return square.Cmp(times(rest, rest))
	}
}

// other answers a component's other side.
func (a against) other() against {
	return func(m *big.Float) int { return -a(new(big.Float).Neg(m)) }
}

func root(l [4]*big.Int, isBelow bool) [2]against {
	second := rootOf(new(big.Int).Neg(l[0]), l[1])
	if isBelow {
		second = second.other()
	}
	return [2]against{rootOf(l[0], l[1]), second}
}

// byWholes answers both components of an algebraic function.
func byWholes(tag int, z api.Four) [2]against {
	l := [4]*big.Int{wholeOf(z[0]), wholeOf(z[1]), new(big.Int), new(big.Int)}
	if takesTwo(tag) {
		l[2], l[3] = wholeOf(z[2]), wholeOf(z[3])
	}
	switch tag {
	case api.Abs:
		return distance(l)
	case api.Mul:
		return product(l)
	case api.Div:
		return quotient(l)
	}
	return root(l, z[1]&sign != 0)
}

// cancelled answers the zero of a sum whose terms cancel.
func cancelled(mode int) uint64 {
	if mode == api.Down {
		return 0x8000000000000000
	}
	return 0
}

// zeroOf answers the word of a component that is 0.
func zeroOf(tag, i int, z api.Four, mode int) uint64 {
	switch {
	case takesTwo(tag):
		return cancelled(mode)
	case tag == api.Sqrt && i == 1:
		return z[1] & sign
	}
	return 0
}

// checkWholes holds an algebraic function against whole numbers, in each mode: it
// is decided whatever the budget is.
func checkWholes(t *testing.T, tag int, z api.Four) {
	t.Helper()
	for i, a := range byWholes(tag, z) {
		l := a.locate()
		for _, mode := range modes {
			word, flags := l.rounded(mode)
			if l.isZero {
				word = zeroOf(tag, i, z, mode)
			}
			if got := cmath.Call(tag, z, mode, 128)[i]; got != is(word, flags) {
				t.Errorf("%s, %d: %s, not %x/%d", showCall(tag, z, mode, 128), i, showPart(got), word, flags)
			}
		}
	}
}

// algebraic answers the tags of these functions.
func algebraic() []int {
	return []int{api.Abs, api.Mul, api.Div, api.Sqrt}
}

func TestAlgebraOfOrdinaryWords(t *testing.T) {
	each(t, algebraic(), func(t *testing.T, tag int) {
		s := &source{uint64(tag)}
		for range 150 {
			checkWholes(t, tag, s.four(tag))
		}
	})
}

// Words of any size, Small ones, too.
func TestAlgebraOfAnyWords(t *testing.T) {
	each(t, algebraic(), func(t *testing.T, tag int) {
		s := &source{uint64(100 + tag)}
		for range 100 {
			z := api.Four{s.word(-1022, 1024), s.word(-1022, 1024), s.word(-1022, 1024), s.word(-1022, 1024)}
			if n := s.below(8); n < 4 {
				z[n] &= greatestSmall | sign
			}
			if !isSingular(tag, z) {
				checkWholes(t, tag, z)
			}
		}
	})
}

// Few numbers, the least and the greatest ones among them: what is told is often
// a word, the middle of two, 0, below the least Small, or above all numbers.
func TestAlgebraAtTheEdges(t *testing.T) {
	l := []uint64{
		0, sign, leastSmall, 2, 3, greatestSmall, leastNormal, leastNormal + 1, word(0x1p-537), word(0x1.8p-538), one - 1, one, one + 1, word(1.5),
		word(-2), word(0x1p52) + 1, word(0x1p53), word(0x1p512), word(0x1.6a09e667f3bcdp1023), greatest - 1, greatest,
	}
	each(t, algebraic(), func(t *testing.T, tag int) {
		s := &source{uint64(200 + tag)}
		for _, x := range l {
			for _, y := range l {
				z := api.Four{x ^ s.next()&sign, y ^ s.next()&sign, l[s.below(len(l))], l[s.below(len(l))] ^ s.next()&sign}
				if !isSingular(tag, z) {
					checkWholes(t, tag, z)
				}
			}
		}
	})
}

// pair: whole numbers of few bits, whose products and distances have few, too.
func (s *source) pair() (int64, int64) {
	bits := 2 + s.below(26)
	return int64(s.next()>>(64-bits)) + 1, int64(s.next()>>(64-bits)) + 1
}

// Squares of complex whole numbers have roots and distances that end: most are
// words.
func TestRootsThatEnd(t *testing.T) {
	t.Parallel()
	s := &source{3}
	count := [2]int{}
	for range 500 {
		a, b := s.pair()
		scale := 2 * (s.below(900) - 450)
		x, y := math.Ldexp(float64(a*a-b*b), scale), math.Ldexp(float64(2*a*b), scale)
		if s.below(2) == 0 {
			y = -y
		}
		checkWholes(t, api.Abs, words(x, y))
		checkWholes(t, api.Sqrt, words(x, y))
		for i, tag := range []int{api.Abs, api.Sqrt} {
			if cmath.Call(tag, words(x, y), api.Even, 128)[0].Flags == 0 {
				count[i]++
			}
		}
	}
	if count[0] < 300 || count[1] < 300 {
		t.Errorf("%v that end", count)
	}
}

// Distances of 54 bits whose last one is 1 lie in the middle between two words.
func TestMiddlesOfDistances(t *testing.T) {
	t.Parallel()
	s := &source{4}
	count := 0
	for count < 60 {
		a, b := int64(1<<26|s.next()>>38), int64(s.next()>>38)
		x, y, r := a*a-b*b, 2*a*b, a*a+b*b
		if x < 0 {
			x = -x
		}
		// Neither x nor y may have as many bits that aren't 0.
		if r>>53 != 1 || r&1 == 0 || x>>53 != 0 && x&1 == 1 || y>>53 != 0 && y&1 == 1 {
			continue
		}
		count++
		low := word(float64(r - 1))
		even := low + low&1
		for mode, want := range [5]uint64{even, low, low + 1, low, low + 1} {
			answers(t, api.Abs, words(float64(-x), float64(y)), mode, 128, [2]api.Part{is(want, 1), is(0, 0)})
			answers(t, api.Abs, words(float64(y)*0x1p-600, float64(x)*0x1p-600), mode, 128, [2]api.Part{is(want-600<<52, 1), is(0, 0)})
		}
		checkWholes(t, api.Abs, words(float64(x), float64(-y)))
	}
}

// Sums of the products of whole numbers: halfway between two words, beside that,
// and words themselves; zeros, where they cancel.
func TestProductsAndQuotientsThatEnd(t *testing.T) {
	t.Parallel()
	s := &source{5}
	for range 700 {
		a, b := s.pair()
		c, d := s.pair()
		u, v := float64(c), float64(-d)
		scale := s.below(1000) - 500
		x, y := math.Ldexp(float64(a), scale), math.Ldexp(float64(b), scale)
		checkWholes(t, api.Mul, both(x, y, u, v))
		checkWholes(t, api.Mul, both(u, v, math.Ldexp(-v, scale), math.Ldexp(u, scale)))
		// (x, y) (u, v) over (u, v) ends, where it is a word.
		p, q := big.NewInt(0), big.NewInt(0)
		p.Sub(p.Mul(big.NewInt(a), big.NewInt(c)), q.Mul(big.NewInt(b), big.NewInt(-d)))
		q.Add(q.Mul(big.NewInt(a), big.NewInt(-d)), new(big.Int).Mul(big.NewInt(b), big.NewInt(c)))
		first, _ := new(big.Float).SetInt(p).Float64()
		second, _ := new(big.Float).SetInt(q).Float64()
		checkWholes(t, api.Div, both(first, second, u, v))
	}
}

// A component of Mul and Div that is 0, and isn't known, is the zero of sign 0,
// but in the mode Down; what is rounded to 0 keeps its side.
func TestZerosOfProducts(t *testing.T) {
	t.Parallel()
	zero := math.Copysign(0, -1)
	for _, k := range []struct {
		tag     int
		z       api.Four
		at      int
		another uint64
	}{
		{api.Mul, both(1, 1, 1, 1), 0, word(2)}, {api.Mul, both(-3, 3, 2, 2), 1, word(-12)}, {api.Mul, both(1, -1, 1, -1), 0, word(-2)},
		{api.Mul, both(5, 0, 7, 0), 1, word(35)}, {api.Mul, both(5, zero, 7, zero), 1, word(35)}, {api.Mul, both(zero, 5, 0, -7), 1, word(35)},
		{api.Mul, both(0, 2, 3, 0), 0, word(6)}, {api.Mul, both(zero, 2, -3, zero), 0, word(-6)},
		{api.Div, both(4, 4, 1, 1), 1, word(4)}, {api.Div, both(2, -2, 1, 1), 0, word(-2)}, {api.Div, both(-6, zero, 3, 0), 1, word(-2)},
		{api.Div, both(-6, 0, -3, zero), 1, word(2)}, {api.Div, both(0, 6, zero, 3), 1, word(2)},
	} {
		for _, mode := range modes {
			want := [2]api.Part{is(k.another, 0), is(k.another, 0)}
			want[k.at] = is(cancelled(mode), 0)
			answers(t, k.tag, k.z, mode, 128, want)
			answers(t, k.tag, k.z, mode, 4096, want)
		}
	}
	for _, side := range []uint64{0, sign} {
		z := api.Four{side, sign, sign ^ side, side}
		nothing := [2]api.Part{is(0, 0), is(0, 0)}
		answers(t, api.Mul, z, api.Even, 128, nothing)
		answers(t, api.Mul, z, api.Cut, 128, nothing)
		answers(t, api.Mul, z, api.Up, 128, nothing)
		answers(t, api.Mul, z, api.Away, 128, nothing)
		answers(t, api.Mul, z, api.Down, 128, [2]api.Part{is(sign, 0), is(sign, 0)})
		z = api.Four{side, sign, one | side, one}
		answers(t, api.Div, z, api.Even, 128, nothing)
		answers(t, api.Div, z, api.Down, 128, [2]api.Part{is(sign, 0), is(sign, 0)})
	}
}

// Below the least Small, and at its half: literal words and flags.
func TestBelowTheLeastSmall(t *testing.T) {
	t.Parallel()
	half, less, more := both(0x1p-1074, 0, 0.5, 0), both(0x1p-1074, 0, 0x1.fffffffffffffp-2, 0), both(0x1p-1074, 0, 0x1.0000000000001p-1, 0)
	for _, k := range []struct {
		z     api.Four
		words [5]uint64
	}{
		{half, [5]uint64{0, 0, 1, 0, 1}}, {less, [5]uint64{0, 0, 1, 0, 0}}, {more, [5]uint64{1, 0, 1, 0, 1}},
		{both(0x1p-1074, 0, 0x1p-1074, 0), [5]uint64{0, 0, 1, 0, 0}}, {both(0x1p-1074, 0, 1.5, 0), [5]uint64{2, 1, 2, 1, 2}},
		{both(0x1p-1074, 0, 2.5, 0), [5]uint64{2, 2, 3, 2, 3}},
	} {
		for mode, want := range k.words {
			answers(t, api.Mul, k.z, mode, 128, [2]api.Part{is(want, 5), is(cancelled(mode), 0)})
			z := api.Four{k.z[0] | sign, k.z[1], k.z[2], k.z[3]}
			answers(t, api.Mul, z, turned[mode], 128, [2]api.Part{is(want|sign, 5), is(cancelled(turned[mode]), 0)})
		}
	}
}

// At and above the greatest number: literal words and flags.
func TestAboveTheGreatest(t *testing.T) {
	t.Parallel()
	for _, k := range []struct {
		z     api.Four
		words [5]uint64
		flags [5]int
	}{
		{both(0x1p1023, 0, 2, 0), [5]uint64{infinity, greatest, infinity, greatest, infinity}, [5]int{3, 3, 3, 3, 3}},
		{both(0x1.fffffffffffffp1023, 0, 1, 0), [5]uint64{greatest, greatest, greatest, greatest, greatest}, [5]int{}},
		// (2^53 - 1) 2^971, and a half, less than that, more of 2^971 beside it.
		{both(0x1.fffffffffffffp1023, 0x1p970, 1, -1), [5]uint64{infinity, greatest, infinity, greatest, infinity}, [5]int{3, 1, 3, 1, 3}},
		{both(0x1.fffffffffffffp1023, 0x1.fffffffffffffp969, 1, -1), [5]uint64{greatest, greatest, infinity, greatest, greatest}, [5]int{1, 1, 3, 1, 1}},
		{both(0x1.fffffffffffffp1023, 0x1.0000000000001p970, 1, -1), [5]uint64{infinity, greatest, infinity, greatest, infinity}, [5]int{3, 1, 3, 1, 3}},
		{both(0x1.fffffffffffffp1023, 0x1p971, 1, -1), [5]uint64{infinity, greatest, infinity, greatest, infinity}, [5]int{3, 3, 3, 3, 3}},
	} {
		for mode, want := range k.words {
			got := cmath.Call(api.Mul, k.z, mode, 128)[0]
			if got != is(want, k.flags[mode]) {
				t.Errorf("%s: %s, not %x/%d", showCall(api.Mul, k.z, mode, 128), showPart(got), want, k.flags[mode])
			}
		}
	}
	for _, mode := range modes {
		want, flags := greatest, 3
		if mode == api.Even || mode == api.Up || mode == api.Away {
			want = infinity
		}
		answers(t, api.Abs, at(greatest, greatest|sign), mode, 128, [2]api.Part{is(want, flags), is(0, 0)})
	}
}
