package dyad_test

import (
	"math"
	"math/big"
	"testing"

	"volvelle/api"
	"volvelle/dyad"
)

// P2.1: Cut, Over and Root. They are held against floors of whole numbers, and,
// where there are few numbers, against each number that might be answered.

const (
	down = false
	up   = true
)

// floorOf answers the greatest number of p bits that isn't greater than above
// over below, times 2 to the e (up: the least that isn't less).
func floorOf(above, below *big.Int, e, p int, up bool) number {
	if above.Sign() == 0 {
		return number{new(big.Int), 0}
	}
	// 2^k isn't above the size of the quotient, and 2^(k+1) is.
	k := above.BitLen() - below.BitLen()
	if cmpPower(above, below, k) < 0 {
		k--
	}
	last := k - p + 1
	x, y := new(big.Int).Set(above), new(big.Int).Set(below)
	if y.Sign() < 0 {
		x.Neg(x)
		y.Neg(y)
	}
	if last < 0 {
		x.Lsh(x, uint(-last))
	} else {
		y.Lsh(y, uint(last))
	}
	// Div is cut downwards, as y isn't below 0.
	quotient, rest := new(big.Int).DivMod(x, y, new(big.Int))
	if up && rest.Sign() != 0 {
		quotient.Add(quotient, big.NewInt(1))
	}
	return number{quotient, last + e}
}

// cmpPower holds the size of above over below against 2 to the k.
func cmpPower(above, below *big.Int, k int) int {
	x, y := new(big.Int).Set(above), new(big.Int).Set(below)
	if k >= 0 {
		y.Lsh(y, uint(k))
	} else {
		x.Lsh(x, uint(-k))
	}
	return x.CmpAbs(y)
}

// rootOf is floorOf of the root of n times 2 to the e.
func rootOf(n *big.Int, e, p int, up bool) number {
	if n.Sign() == 0 {
		return number{new(big.Int), 0}
	}
	// The root is below 2 to the k, and not below half of that.
	size := n.BitLen() + e
	k := (size + size&1) / 2
	last := k - p
	x, y := new(big.Int).Set(n), big.NewInt(1)
	if move := e - 2*last; move >= 0 {
		x.Lsh(x, uint(move))
	} else {
		y.Lsh(y, uint(-move))
	}
	whole, rest := new(big.Int).DivMod(x, y, new(big.Int))
	root := new(big.Int).Sqrt(whole)
	exact := rest.Sign() == 0 && new(big.Int).Mul(root, root).Cmp(whole) == 0
	if up && !exact {
		root.Add(root, big.NewInt(1))
	}
	return number{root, last}
}

func checkCut(t *testing.T, d api.Dyad, p int) {
	t.Helper()
	for _, up := range []bool{false, true} {
		got, ok := dyad.Cut(d, p, up)
		x := numberOf(d)
		expect(t, got, ok, floorOf(x.n, big.NewInt(1), x.e, p, up), "Cut", show(d), p, up)
	}
}

func checkOver(t *testing.T, a, b api.Dyad, p int) {
	t.Helper()
	for _, up := range []bool{false, true} {
		got, ok := dyad.Over(a, b, p, up)
		if len(b.M) == 0 {
			refused(t, got, ok, "Over", show(a), "0", p, up)
			continue
		}
		x, y := numberOf(a), numberOf(b)
		expect(t, got, ok, floorOf(x.n, y.n, x.e-y.e, p, up), "Over", show(a), show(b), p, up)
	}
}

func checkRoot(t *testing.T, a api.Dyad, p int) {
	t.Helper()
	for _, up := range []bool{false, true} {
		got, ok := dyad.Root(a, p, up)
		if a.Neg {
			refused(t, got, ok, "Root", show(a), p, up)
			continue
		}
		x := numberOf(a)
		expect(t, got, ok, rootOf(x.n, x.e, p, up), "Root", show(a), p, up)
	}
}

func TestExamples(t *testing.T) {
	for i, x := range []struct {
		call func(up bool) (api.Dyad, bool)
		low  api.Dyad
		high api.Dyad
	}{
		{func(up bool) (api.Dyad, bool) { return dyad.Over(of(1, 0), of(3, 0), 3, up) }, of(5, -4), of(3, -3)},
		{func(up bool) (api.Dyad, bool) { return dyad.Over(of(-1, 0), of(3, 0), 3, up) }, of(-3, -3), of(-5, -4)},
		{func(up bool) (api.Dyad, bool) { return dyad.Over(of(6, 0), of(3, 0), 1, up) }, of(2, 0), of(2, 0)},
		{func(up bool) (api.Dyad, bool) { return dyad.Root(of(2, 0), 2, up) }, of(1, 0), of(3, -1)},
		{func(up bool) (api.Dyad, bool) { return dyad.Root(of(9, -2), 2, up) }, of(3, -1), of(3, -1)},
		{func(up bool) (api.Dyad, bool) { return dyad.Root(of(3, 0), 1, up) }, of(1, 0), of(2, 0)},
		{func(up bool) (api.Dyad, bool) { return dyad.Cut(of(15, 0), 3, up) }, of(14, 0), of(16, 0)},
		{func(up bool) (api.Dyad, bool) { return dyad.Cut(of(-15, 0), 3, up) }, of(-16, 0), of(-14, 0)},
		{func(up bool) (api.Dyad, bool) { return dyad.Cut(of(15, 0), 4, up) }, of(15, 0), of(15, 0)},
		{func(up bool) (api.Dyad, bool) { return dyad.Cut(of(5, 9), 1, up) }, of(4, 9), of(8, 9)},
	} {
		if got, ok := x.call(down); !ok || !same(got, x.low) {
			t.Errorf("%d: down %v, %v", i, got, ok)
		}
		if got, ok := x.call(up); !ok || !same(got, x.high) {
			t.Errorf("%d: up %v, %v", i, got, ok)
		}
	}
}

// nearest goes over all numbers of p bits of 2^-12 to 2^12 in size, and 0: the
// greatest one that isn't above, the least one that isn't below what beyond
// tells of (1: the number tried is above it, -1: below).
func nearest(p int, up bool, beyond func(n int64, e int) int) number {
	best, found := number{new(big.Int), 0}, beyond(0, 0) != 1 && !up || beyond(0, 0) != -1 && up
	for e := -12; e <= 12; e++ {
		for n := int64(1) << (p - 1); n < 1<<p; n++ {
			for _, try := range []int64{n, -n} {
				side := beyond(try, e)
				if side > 0 && !up || side < 0 && up {
					continue
				}
				x, y, _ := align(number{big.NewInt(try), e}, best)
				if !found || x.Cmp(y) > 0 && !up || x.Cmp(y) < 0 && up {
					best, found = number{big.NewInt(try), e}, true
				}
			}
		}
	}
	return best
}

// Each answer is the best one of all that there are.
func TestNearestOfAll(t *testing.T) {
	for p := 1; p <= 4; p++ {
		for a := int64(-21); a <= 21; a++ {
			for _, up := range []bool{false, true} {
				got, ok := dyad.Cut(of(a, -1), p, up)
				expect(t, got, ok, nearest(p, up, func(n int64, e int) int {
					return big.NewInt(n << (e + 12)).Cmp(big.NewInt(a << 11))
				}), "Cut", a, p, up)
				for _, b := range []int64{1, -1, 3, -3, 5, 7, 8, -11, 13} {
					got, ok := dyad.Over(of(a, 0), of(b, 0), p, up)
					expect(t, got, ok, nearest(p, up, func(n int64, e int) int {
						side := big.NewInt((n << (e + 12)) * b).Cmp(big.NewInt(a << 12))
						if b < 0 {
							return -side
						}
						return side
					}), "Over", a, b, p, up)
				}
				if a < 0 {
					continue
				}
				got, ok = dyad.Root(of(a, -1), p, up)
				expect(t, got, ok, nearest(p, up, func(n int64, e int) int {
					if n < 0 {
						return -1
					}
					x := big.NewInt(n << (e + 12))
					return x.Mul(x, x).Cmp(big.NewInt(a << 23))
				}), "Root", a, p, up)
			}
		}
	}
}

func TestCut(t *testing.T) {
	for _, d := range edges() {
		for _, p := range []int{1, 2, 3, 63, 64, 65, 128, api.MaxPrec - 1, api.MaxPrec} {
			checkCut(t, d, p)
		}
	}
	s := &source{5}
	for range 20000 {
		checkCut(t, s.dyad(200, 200), 1+s.below(220))
		checkCut(t, s.dyad(12, 20), 1+s.below(13))
	}
}

func TestOver(t *testing.T) {
	for i, a := range edges() {
		for j, b := range edges() {
			checkOver(t, a, b, []int{1, 2, 3, 53, 64, 65, 128}[(i+j)%7])
		}
	}
	s := &source{6}
	for range 20000 {
		checkOver(t, s.dyad(200, 200), s.dyad(200, 200), 1+s.below(220))
		checkOver(t, s.dyad(10, 20), s.dyad(8, 20), 1+s.below(12))
		// Quotients that have just p bits, and ones next to these.
		b, q := s.dyad(90, 50), s.dyad(70, 50)
		if product, ok := dyad.Mul(b, q); ok {
			checkOver(t, product, b, 1+s.below(80))
			little, _ := dyad.Sum(product, of(int64(s.below(3))-1, product.E-s.below(200)))
			checkOver(t, little, b, 1+s.below(80))
		}
	}
}

func TestRoot(t *testing.T) {
	for _, a := range edges() {
		for _, p := range []int{1, 2, 3, 32, 64, 65, 128, 4096} {
			checkRoot(t, a, p)
		}
	}
	s := &source{7}
	for range 20000 {
		checkRoot(t, s.dyad(200, 200), 1+s.below(220))
		checkRoot(t, s.dyad(10, 20), 1+s.below(12))
		// Roots that have just p bits, and ones next to these.
		root := s.dyad(70, 50)
		square, _ := dyad.Mul(root, root)
		checkRoot(t, square, 1+s.below(80))
		little, _ := dyad.Sum(square, of(int64(s.below(3))-1, square.E-s.below(200)))
		checkRoot(t, little, 1+s.below(80))
	}
}

func TestWithMostBits(t *testing.T) {
	for _, p := range []int{api.MaxPrec - 1, api.MaxPrec} {
		for _, d := range []api.Dyad{of(1, 0), of(3, 5), of(2, 0), ones(api.MaxBits, -3), ends(api.MaxBits, 0), ones(64, 1)} {
			checkOver(t, of(1, 0), d, p)
			checkOver(t, d, of(-7, 0), p)
			checkOver(t, ones(api.MaxBits, 0), d, p)
			checkRoot(t, d, p)
		}
	}
}

// What would be answered may have an E that isn't plain, or one that is so just
// because its M has zeros.
func TestNearestAtTheBounds(t *testing.T) {
	for i, x := range []struct {
		call func(up bool) (api.Dyad, bool)
		low  api.Dyad
		high api.Dyad
	}{
		{func(up bool) (api.Dyad, bool) { return dyad.Cut(of(15, api.MaxExp), 3, up) }, api.Dyad{}, api.Dyad{}},
		{func(up bool) (api.Dyad, bool) { return dyad.Cut(of(15, api.MaxExp-1), 3, up) }, of(7, api.MaxExp), api.Dyad{}},
		{func(up bool) (api.Dyad, bool) { return dyad.Cut(of(-15, api.MaxExp-1), 3, up) }, api.Dyad{}, of(-7, api.MaxExp)},
		{func(up bool) (api.Dyad, bool) { return dyad.Cut(of(15, api.MaxExp), 4, up) }, of(15, api.MaxExp), of(15, api.MaxExp)},
		{func(up bool) (api.Dyad, bool) { return dyad.Cut(of(5, -api.MaxExp), 2, up) }, of(1, 2-api.MaxExp), of(3, 1-api.MaxExp)},
		{func(up bool) (api.Dyad, bool) { return dyad.Over(of(1, -api.MaxExp), of(3, 0), 5, up) }, api.Dyad{}, api.Dyad{}},
		{func(up bool) (api.Dyad, bool) { return dyad.Over(of(1, -api.MaxExp), of(3, -6), 5, up) }, of(21, -api.MaxExp), of(11, 1-api.MaxExp)},
		{func(up bool) (api.Dyad, bool) { return dyad.Over(of(1, -api.MaxExp), of(3, -5), 5, up) }, api.Dyad{}, of(11, -api.MaxExp)},
		{func(up bool) (api.Dyad, bool) { return dyad.Over(of(15, -api.MaxExp), of(5, 0), 8, up) }, of(3, -api.MaxExp), of(3, -api.MaxExp)},
		{func(up bool) (api.Dyad, bool) { return dyad.Over(of(1, api.MaxExp), of(1, -1), 8, up) }, api.Dyad{}, api.Dyad{}},
		{func(up bool) (api.Dyad, bool) { return dyad.Over(of(1, api.MaxExp), of(3, -4), 2, up) }, api.Dyad{}, api.Dyad{}},
		{func(up bool) (api.Dyad, bool) { return dyad.Root(of(1, api.MaxExp), 8, up) }, of(1, api.MaxExp/2), of(1, api.MaxExp/2)},
		{func(up bool) (api.Dyad, bool) { return dyad.Root(of(1, -api.MaxExp), 8, up) }, of(1, -api.MaxExp/2), of(1, -api.MaxExp/2)},
		{func(up bool) (api.Dyad, bool) { return dyad.Root(of(1, 1-api.MaxExp), 2, up) }, of(1, -api.MaxExp/2), of(3, -api.MaxExp/2-1)},
	} {
		for _, y := range []struct {
			up   bool
			want api.Dyad
		}{{down, x.low}, {up, x.high}} {
			got, ok := x.call(y.up)
			if ok != (len(y.want.M) > 0) || !same(got, y.want) {
				t.Errorf("%d, up %v: %v, %v", i, y.up, show(got), ok)
			}
		}
	}
}

func TestNearestOfZero(t *testing.T) {
	for _, zero := range []api.Dyad{{}, {M: list{}}} {
		for _, p := range []int{1, 64, api.MaxPrec} {
			for _, up := range []bool{false, true} {
				a, okA := dyad.Cut(zero, p, up)
				b, okB := dyad.Over(zero, of(-3, api.MaxExp), p, up)
				c, okC := dyad.Root(zero, p, up)
				if !okA || !okB || !okC || !same(a, zero) || !same(b, zero) || !same(c, zero) {
					t.Error("of 0:", a, okA, b, okB, c, okC)
				}
				d, ok := dyad.Over(zero, zero, p, up)
				refused(t, d, ok, "0 over 0")
			}
		}
	}
}

func TestNearestOfWrongBits(t *testing.T) {
	for _, p := range []int{0, -1, -64, api.MaxPrec + 1, api.MaxBits, math.MaxInt, math.MinInt} {
		for _, d := range []api.Dyad{{}, of(1, 0), of(3, 5), ones(api.MaxBits, 0)} {
			for _, up := range []bool{false, true} {
				got, ok := dyad.Cut(d, p, up)
				refused(t, got, ok, "Cut", show(d), p, up)
				got, ok = dyad.Over(d, of(1, 0), p, up)
				refused(t, got, ok, "Over", show(d), p, up)
				got, ok = dyad.Root(d, p, up)
				refused(t, got, ok, "Root", show(d), p, up)
			}
		}
	}
}

func TestNearestOfWhatIsNotPlain(t *testing.T) {
	for _, d := range notPlain() {
		for _, up := range []bool{false, true} {
			for _, p := range []int{1, 64, api.MaxPrec} {
				got, ok := dyad.Cut(d, p, up)
				refused(t, got, ok, "Cut", show(d), p, up)
				got, ok = dyad.Over(d, of(1, 0), p, up)
				refused(t, got, ok, "Over", show(d), p, up)
				got, ok = dyad.Over(of(1, 0), d, p, up)
				refused(t, got, ok, "Over of 1 and", show(d), p, up)
				got, ok = dyad.Over(api.Dyad{}, d, p, up)
				refused(t, got, ok, "Over of 0 and", show(d), p, up)
				got, ok = dyad.Root(d, p, up)
				refused(t, got, ok, "Root", show(d), p, up)
			}
		}
	}
}
