package part_test

import (
	"math"
	"math/big"
	"testing"

	"volvelle/api"
	"volvelle/part"
)

// P11.1, P0.1: Mul with bits enough, and Abs, Div and Sqrt where a component has
// as many bits as the calc at most, tell that number alone. Their components are
// held against whole numbers.

// whole answers n times 2 to the e.
func whole(n int64, e int) *big.Float {
	x := new(big.Float).SetInt64(n)
	return x.SetMantExp(x, e)
}

// wordOf answers the word of a number that one stands for.
func wordOf(t *testing.T, x *big.Float) uint64 {
	t.Helper()
	f, exact := x.Float64()
	if exact != big.Exact {
		t.Fatalf("%s has no word", x.Text('p', 0))
	}
	return math.Float64bits(f)
}

// bitsOf answers how many bits a number has.
func bitsOf(x *big.Float) int {
	return int(x.MinPrec())
}

// checkLone holds both components with few bits and with many. Where they have
// more bits than the calc they are still held.
func checkLone(t *testing.T, tag int, z api.Four, want [2]*big.Float) {
	t.Helper()
	l := []int{16, 17, 53, 54, 106, 2000, 6000}
	for _, x := range want {
		l = append(l, min(max(bitsOf(x), 16), 6000), min(max(bitsOf(x)-1, 16), 6000))
	}
	for _, p := range l {
		for i, a := range enclosed(t, p, tag, z) {
			if !holds(a, want[i]) || !isWithin(a, p-4) {
				t.Errorf("%s with %d bits, %d: %s, not %s", showCall(tag, z), p, i, showSpan(a), want[i].Text('g', 30))
			}
			if bitsOf(want[i]) <= p && !isLone(a) {
				t.Errorf("%s with %d bits, %d: %s isn't alone", showCall(tag, z), p, i, showSpan(a))
			}
		}
	}
}

func TestProductsAreExact(t *testing.T) {
	t.Parallel()
	s := &source{1}
	for n := range 400 {
		var z api.Four
		for i := range z {
			z[i] = s.ordinary()
			switch n % 4 {
			case 1:
				z[i] = s.word(-1022, 1024)
			case 2:
				z[i] = s.word(-60, 60)
			case 3:
				z[i] = allWords()[s.below(len(allWords()))]
			}
		}
		checkLone(t, api.Mul, z, far(5000).expected(api.Mul, z))
	}
}

// What is most and least at once has the most bits.
func TestLongestProducts(t *testing.T) {
	t.Parallel()
	for _, z := range []api.Four{
		{greatestNormal, leastSmall, greatestNormal, leastSmall}, {leastSmall, greatestNormal, leastSmall | sign, greatestNormal},
		{greatestNormal, greatestNormal, greatestNormal, greatestNormal}, {leastSmall, leastSmall, leastSmall, leastSmall},
		{greatestNormal, greatestSmall, greatestNormal | sign, greatestSmall},
	} {
		checkLone(t, api.Mul, z, far(5000).expected(api.Mul, z))
	}
}

// What is 0 is told as just 0.
func TestProductsAndQuotientsThatAreZero(t *testing.T) {
	t.Parallel()
	s := &source{2}
	for range 100 {
		a, b := s.word(-500, 500), s.word(-500, 500)
		for _, z := range []api.Four{{a, b, b, a}, {a, b, a, b ^ sign}, {a, a, b, b}, {0, sign, a, b}, {sign, 0, a, 0}, {a, 0, 0, b}} {
			for _, tag := range []int{api.Mul, api.Div} {
				want := far(5000).expected(tag, z)
				for i, x := range enclosed(t, 16+s.below(200), tag, z) {
					if want[i].Sign() == 0 && !same(x, api.Span{}) {
						t.Errorf("%s, %d: %s, not just 0", showCall(tag, z), i, showSpan(x))
					}
				}
			}
		}
	}
}

// few answers a number of up to so many bits, with either sign.
func (s *source) few(bits int) int64 {
	n := int64(s.next()>>1) >> (63 - 1 - s.below(bits))
	if s.below(2) == 0 {
		return -n
	}
	return n
}

func TestQuotientsAreExact(t *testing.T) {
	t.Parallel()
	s := &source{3}
	for range 400 {
		// What is divided is a product.
		x, y, u, v := s.few(25), s.few(25), s.few(25), s.few(25)
		if u == 0 && v == 0 {
			continue
		}
		e, f := s.below(1600)-800, s.below(160)-80
		z := api.Four{
			wordOf(t, whole(x*u-y*v, e+f)), wordOf(t, whole(x*v+y*u, e+f)), wordOf(t, whole(u, f)), wordOf(t, whole(v, f)),
		}
		checkLone(t, api.Div, z, [2]*big.Float{whole(x, e), whole(y, e)})
	}
	// By powers of 2, and by these times 1 + i.
	for range 200 {
		x, y, e := s.few(50), s.few(50), s.below(800)-400
		z := api.Four{wordOf(t, whole(x, 0)), wordOf(t, whole(y, 0)), wordOf(t, whole(1, e)), 0}
		checkLone(t, api.Div, z, [2]*big.Float{whole(x, -e), whole(y, -e)})
		z[3] = z[2]
		checkLone(t, api.Div, z, [2]*big.Float{whole(x+y, -e-1), whole(y-x, -e-1)})
	}
}

// Quotients from and to the ends of what words stand for.
func TestLongestQuotients(t *testing.T) {
	t.Parallel()
	for _, z := range []api.Four{
		{greatestNormal, leastSmall, leastSmall, leastSmall}, {leastSmall, leastSmall, greatestNormal, leastSmall},
		{greatestNormal, leastSmall, greatestNormal, leastSmall}, {leastSmall, greatestNormal, leastSmall | sign, greatestNormal},
		{leastSmall, leastSmall | sign, leastSmall, leastSmall}, {greatestNormal, greatestNormal | sign, greatestNormal, greatestNormal},
	} {
		for _, p := range []int{16, 53, 1000} {
			checkHeld(t, p, api.Div, z, 7000)
		}
	}
}

// Of m² - n² and 2 m n the distance is m² + n², and, as this is the square of
// m + n i, the root is that, if m isn't below 0.
func TestDistancesAndRootsAreExact(t *testing.T) {
	t.Parallel()
	s := &source{4}
	for range 400 {
		m, n, e := s.few(26), s.few(26), s.below(900)-450
		if m < 0 || m == 0 && n < 0 {
			m, n = -m, -n
		}
		z := at(wordOf(t, whole(m*m-n*n, 2*e)), wordOf(t, whole(2*m*n, 2*e)))
		checkLone(t, api.Abs, z, [2]*big.Float{whole(m*m+n*n, 2*e), new(big.Float)})
		checkLone(t, api.Sqrt, z, [2]*big.Float{whole(m, e), whole(n, e)})
	}
}

// A root may have fewer bits than the distance that it is worked from.
func TestRootsOfFewBits(t *testing.T) {
	t.Parallel()
	for _, e := range []int{0, 1, -100, 400} {
		for _, k := range []struct{ m, n int64 }{{1<<25 + 1, 3}, {3, 1<<25 + 1}, {1<<25 + 1, -1}, {1, 1<<26 - 1}} {
			z := at(wordOf(t, whole(k.m*k.m-k.n*k.n, 2*e)), wordOf(t, whole(2*k.m*k.n, 2*e)))
			checkLone(t, api.Sqrt, z, [2]*big.Float{whole(k.m, e), whole(k.n, e)})
		}
		// The distance has twice as many bits as a word.
		for _, k := range []int64{1 << 51, 1 << 45} {
			x, y := whole(2*k+1, 2*e), new(big.Float).Mul(whole(k+1, 2*e), whole(2*k, 0))
			z := at(wordOf(t, x), wordOf(t, y))
			checkLone(t, api.Sqrt, z, [2]*big.Float{whole(k+1, e), whole(k, e)})
			z[0] ^= sign
			checkLone(t, api.Sqrt, z, [2]*big.Float{whole(k, e), whole(k+1, e)})
		}
	}
}

// On the axes roots and distances are those of numbers, at the ends of what words
// stand for, too.
func TestExactOnTheAxes(t *testing.T) {
	t.Parallel()
	none := new(big.Float)
	for _, b := range allWords() {
		x := new(big.Float).SetFloat64(math.Abs(math.Float64frombits(b)))
		checkLone(t, api.Abs, at(b, 0), [2]*big.Float{x, none})
		checkLone(t, api.Abs, at(sign, b), [2]*big.Float{x, none})
	}
	for _, k := range []struct {
		n int64
		e int
	}{{1, -537}, {1, 0}, {1, 511}, {1<<26 - 1, -537}, {1<<26 - 1, 20}, {1<<26 - 1, 485}} {
		first, second := whole(k.n, k.e), whole(-k.n, k.e)
		b := wordOf(t, whole(k.n*k.n, 2*k.e))
		checkLone(t, api.Sqrt, at(b, 0), [2]*big.Float{first, none})
		checkLone(t, api.Sqrt, at(b|sign, 0), [2]*big.Float{none, first})
		checkLone(t, api.Sqrt, at(b|sign, sign), [2]*big.Float{none, second})
		// 2 i is the square of 1 + i.
		b = wordOf(t, whole(2*k.n*k.n, 2*k.e))
		checkLone(t, api.Sqrt, at(0, b), [2]*big.Float{first, first})
		checkLone(t, api.Sqrt, at(sign, b|sign), [2]*big.Float{first, second})
	}
}

// What has more bits is narrow, and isn't said to be one number with fewer.
func TestWhatIsNotExact(t *testing.T) {
	t.Parallel()
	for _, tag := range []int{api.Abs, api.Div, api.Sqrt} {
		z := api.Four{word(1), word(2), word(3), word(5)}
		for _, p := range []int{16, 53, 400, 6000} {
			a := enclosed(t, p, tag, z)[0]
			if isLone(a) || !isWithin(a, p-4) {
				t.Errorf("%s with %d bits: %s", showCall(tag, z), p, showSpan(a))
			}
		}
	}
	if part.Singular(api.Sqrt, at(0, 0)) {
		t.Error("the root of 0 is singular")
	}
}
