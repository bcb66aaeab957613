package dyad_test

import (
	"math/big"
	"slices"
	"testing"

	"volvelle/api"
	"volvelle/dyad"
)

// P2.1: Sum, of any number of dyads.

// sumOf is the reference; its second answer is false where the E of those that
// aren't 0 lie too far apart.
func sumOf(l []api.Dyad) (number, bool) {
	var exponents []int
	for _, d := range l {
		if len(d.M) > 0 {
			exponents = append(exponents, d.E)
		}
	}
	if len(exponents) == 0 {
		return number{new(big.Int), 0}, true
	}
	least := slices.Min(exponents)
	if slices.Max(exponents)-least > 262144 {
		return number{}, false
	}
	sum := new(big.Int)
	for _, d := range l {
		if len(d.M) > 0 {
			sum.Add(sum, new(big.Int).Lsh(numberOf(d).n, uint(d.E-least)))
		}
	}
	return number{sum, least}, true
}

func checkSum(t *testing.T, l ...api.Dyad) {
	t.Helper()
	got, ok := dyad.Sum(l...)
	want, near := sumOf(l)
	if !near {
		refused(t, got, ok, "Sum of numbers far apart")
		return
	}
	expect(t, got, ok, want, "Sum", len(l), show(slices.Concat(l, []api.Dyad{{}})[0]))
}

func TestSumIsVariadic(t *testing.T) {
	for i, x := range []struct {
		sum  func() (api.Dyad, bool)
		want api.Dyad
	}{
		{func() (api.Dyad, bool) { return dyad.Sum() }, api.Dyad{}},
		{func() (api.Dyad, bool) { return dyad.Sum(nil...) }, api.Dyad{}},
		{func() (api.Dyad, bool) { return dyad.Sum([]api.Dyad{}...) }, api.Dyad{}},
		{func() (api.Dyad, bool) { return dyad.Sum(of(-5, 2)) }, of(-5, 2)},
		{func() (api.Dyad, bool) { return dyad.Sum(of(1, 0), of(1, -1)) }, of(3, -1)},
		{func() (api.Dyad, bool) { return dyad.Sum(of(1, 0), of(1, -1), of(-3, -1)) }, api.Dyad{}},
		{func() (api.Dyad, bool) { return dyad.Sum([]api.Dyad{of(1, 0), {}, of(7, 0)}...) }, of(1, 3)},
	} {
		if got, ok := x.sum(); !ok || !same(got, x.want) {
			t.Errorf("%d: %v, %v", i, got, ok)
		}
	}
}

func TestSumOfTwo(t *testing.T) {
	for a, b := range pairs {
		checkSum(t, a, b)
	}
}

func TestSumOfMany(t *testing.T) {
	s := &source{4}
	for range 5000 {
		l := make([]api.Dyad, s.below(12))
		for i := range l {
			l[i] = s.dyad(130, 1+s.below(300))
		}
		checkSum(t, l...)
	}
	// Carries and borrows through many words.
	up := make([]api.Dyad, 3000)
	for i := range up {
		up[i] = ones(640, i%130)
	}
	checkSum(t, up...)
	checkSum(t, slices.Concat(up, []api.Dyad{negative(ones(700, 3)), negative(ends(900, 0))})...)
	checkSum(t, of(1, 640), of(-1, 0), negative(ones(64, 64)))
	checkSum(t, of(-1, 640), of(1, 0))
}

// Numbers of which one cancels the other: what is added up ahead of that has
// more bits than a plain dyad.
func TestSumThatCancels(t *testing.T) {
	long := ones(api.MaxBits, api.MaxBits)
	checkSum(t, long, of(1, 0), negative(long))
	checkSum(t, of(1, 0), of(1, api.MaxExp), of(-1, api.MaxExp))
	checkSum(t, of(1, api.MaxExp), of(-1, 0), of(-1, api.MaxExp))
	checkSum(t, of(1, -api.MaxExp), of(-3, 0), of(3, 0))
	checkSum(t, ones(api.MaxBits, api.MaxExp), of(1, api.MaxExp), negative(ones(api.MaxBits, api.MaxExp)))
	checkSum(t, long, negative(long))
	got, ok := dyad.Sum(of(7, 0), of(1, api.MaxExp), of(-1, api.MaxExp))
	if !ok || !same(got, of(7, 0)) {
		t.Errorf("what is left is %v, %v", show(got), ok)
	}
}

func TestSumAtTheBounds(t *testing.T) {
	for _, x := range []struct {
		l  []api.Dyad
		ok bool
	}{
		// MaxBits bits, and one more.
		{[]api.Dyad{of(1, 0), of(1, api.MaxBits-1)}, true},
		{[]api.Dyad{of(1, 0), of(1, api.MaxBits)}, false},
		{[]api.Dyad{of(-1, 0), of(1, api.MaxBits)}, true},
		{[]api.Dyad{of(-1, 0), of(1, api.MaxBits+1)}, false},
		{[]api.Dyad{ones(api.MaxBits, 0), of(1, 0)}, true},
		{[]api.Dyad{ones(api.MaxBits, 0), of(1, 1)}, false},
		// E of the sum.
		{[]api.Dyad{of(1, api.MaxExp), of(1, api.MaxExp)}, false},
		{[]api.Dyad{of(1, api.MaxExp), of(1, api.MaxExp), of(1, api.MaxExp)}, true},
		{[]api.Dyad{of(1, api.MaxExp), of(-1, api.MaxExp)}, true},
		{[]api.Dyad{of(3, -api.MaxExp), of(-1, -api.MaxExp)}, true},
		// E that differ by MaxExp, and by more, whatever cancels.
		{[]api.Dyad{of(1, 0), of(1, api.MaxExp)}, false},
		{[]api.Dyad{of(1, 0), of(1, api.MaxExp), of(-1, api.MaxExp)}, true},
		{[]api.Dyad{of(1, -1), of(1, api.MaxExp), of(-1, api.MaxExp)}, false},
		{[]api.Dyad{of(1, -1), of(-1, -1), of(1, api.MaxExp), of(-1, api.MaxExp)}, false},
		{[]api.Dyad{of(1, -api.MaxExp), of(5, 0), of(-5, 0)}, true},
		{[]api.Dyad{of(1, -api.MaxExp), of(5, 1), of(-5, 1)}, false},
		{[]api.Dyad{of(1, api.MaxExp), of(1, -api.MaxExp), of(-1, api.MaxExp)}, false},
		// Zeros have no part in that.
		{[]api.Dyad{{}, of(1, api.MaxExp), {}, of(-3, api.MaxExp), of(1, api.MaxExp)}, true},
		{[]api.Dyad{of(1, -api.MaxExp), {}, {}}, true},
		{[]api.Dyad{{}, {M: list{}}, {}}, true},
	} {
		checkSum(t, x.l...)
		slices.Reverse(x.l)
		checkSum(t, x.l...)
		if _, ok := dyad.Sum(x.l...); ok != x.ok {
			t.Errorf("Sum of %v: %v", x.l, ok)
		}
	}
}

func TestSumOfWhatIsNotPlain(t *testing.T) {
	for _, d := range notPlain() {
		for _, l := range [][]api.Dyad{
			{d}, {d, d}, {d, of(1, 0)}, {of(1, 0), d}, {{}, d, {}}, {of(1, 0), of(2, 0), of(-3, 0), d},
		} {
			got, ok := dyad.Sum(l...)
			refused(t, got, ok, "Sum with", show(d), "among", len(l))
		}
	}
}

// Many numbers far apart end in good time.
func TestSumOfVeryMany(t *testing.T) {
	l := make([]api.Dyad, 200000)
	for i := range l {
		l[i] = of(int64(i%7)-3, (i%2)*api.MaxExp)
	}
	l = append(l, of(5, 0))
	checkSum(t, l...)
}
