package dyad_test

import (
	"math"
	"math/big"
	"testing"

	"volvelle/api"
	"volvelle/dyad"
)

// P2.1: each call answers as the chapter says; here those that answer exactly.

func TestLimits(t *testing.T) {
	if api.MaxBits != 16384 || api.MaxExp != 262144 || api.MaxPrec != 8192 {
		t.Fatal("the limits are others")
	}
}

func TestPlain(t *testing.T) {
	for _, d := range edges() {
		if !dyad.Plain(d) {
			t.Errorf("%v is said not to be plain", show(d))
		}
	}
	for _, d := range notPlain() {
		if dyad.Plain(d) {
			t.Errorf("%v is said to be plain", show(d))
		}
	}
}

func TestMake(t *testing.T) {
	s := &source{1}
	for range 20000 {
		m, e, neg := s.m(300), s.below(600)-300, s.below(2) == 0
		got, ok := dyad.Make(neg, m, e)
		n := bigOf(m)
		if neg {
			n.Neg(n)
		}
		expect(t, got, ok, number{n, e}, "Make", neg, m, e)
	}
}

func TestMakeOfZero(t *testing.T) {
	for _, m := range []list{nil, {}, {0}, {0, 0, 0}, make(list, 1<<20)} {
		for _, e := range []int{0, 1, -1, api.MaxExp + 1, -api.MaxExp - 1, math.MaxInt, math.MinInt} {
			for _, neg := range []bool{false, true} {
				got, ok := dyad.Make(neg, m, e)
				if !ok || got.Neg || got.E != 0 || len(got.M) != 0 {
					t.Errorf("Make of 0 with %v and %d = %v, %v", neg, e, got, ok)
				}
			}
		}
	}
}

func TestMakeAtTheBounds(t *testing.T) {
	for _, x := range []struct {
		m    list
		e    int
		want api.Dyad
		ok   bool
	}{
		{list{1}, api.MaxExp, of(1, api.MaxExp), true},
		{list{1}, -api.MaxExp, of(1, -api.MaxExp), true},
		{list{1}, api.MaxExp + 1, api.Dyad{}, false},
		{list{1}, -api.MaxExp - 1, api.Dyad{}, false},
		{list{2, 0}, api.MaxExp - 1, of(1, api.MaxExp), true},
		{list{2}, api.MaxExp, api.Dyad{}, false},
		{list{2}, -api.MaxExp - 1, of(1, -api.MaxExp), true},
		{list{0, 0, 12, 0}, -api.MaxExp - 130, of(3, -api.MaxExp), true},
		{list{0, 0, 12}, -api.MaxExp - 131, api.Dyad{}, false},
		{list{1}, math.MaxInt, api.Dyad{}, false},
		{list{0, 0, 8}, math.MaxInt, api.Dyad{}, false},
		{list{8}, math.MaxInt - 3, api.Dyad{}, false},
		{list{1}, math.MinInt, api.Dyad{}, false},
		{list{0, 0, 8}, math.MinInt, api.Dyad{}, false},
		{append(ones(api.MaxBits, 0).M, 0, 0), 0, ones(api.MaxBits, 0), true},
		{append(list{0, 0}, ones(api.MaxBits, 0).M...), 0, ones(api.MaxBits, 128), true},
		{ones(api.MaxBits+1, 0).M, 0, api.Dyad{}, false},
		{ends(api.MaxBits+1, 0).M, 0, api.Dyad{}, false},
	} {
		for _, neg := range []bool{false, true} {
			got, ok := dyad.Make(neg, x.m, x.e)
			want := x.want
			want.Neg = neg && x.ok
			if ok != x.ok || !same(got, want) {
				t.Errorf("Make(%v, %d words, %d) = %v, %v", neg, len(x.m), x.e, show(got), ok)
			}
		}
	}
}

// The zeros at the low end of m may be more than naturals are shifted by.
func TestMakeOfLongLists(t *testing.T) {
	m := make(list, 1<<20)
	m[len(m)-1] = 6
	low := (len(m)-1)*64 + 1
	for _, e := range []int{0, 1 << 10, -1 << 10, api.MaxExp, -api.MaxExp} {
		got, ok := dyad.Make(true, m, e-low)
		if !ok || !same(got, of(-3, e)) {
			t.Errorf("Make of a long list at %d = %v, %v", e, show(got), ok)
		}
	}
	for _, e := range []int{0, api.MaxExp + 1 - low, -api.MaxExp - 1 - low} {
		got, ok := dyad.Make(true, m, e)
		refused(t, got, ok, "Make of a long list at", e)
	}
	m[0] = 1
	got, ok := dyad.Make(false, m, 0)
	refused(t, got, ok, "Make of a long odd list")
}

func TestNeg(t *testing.T) {
	s := &source{2}
	all := edges()
	for range 2000 {
		all = append(all, s.dyad(300, 300))
	}
	for _, d := range all {
		got, ok := dyad.Neg(d)
		x := numberOf(d)
		expect(t, got, ok, number{x.n.Neg(x.n), x.e}, "Neg", show(d))
	}
	for _, d := range notPlain() {
		got, ok := dyad.Neg(d)
		refused(t, got, ok, "Neg", show(d))
	}
}

// align answers both numbers as multiples of one power of 2.
func align(a, b number) (x, y *big.Int, e int) {
	e = min(a.e, b.e)
	x = new(big.Int).Lsh(a.n, uint(a.e-e))
	y = new(big.Int).Lsh(b.n, uint(b.e-e))
	return x, y, e
}

// pairs goes over the edges, all with all, and then over other dyads, now and
// then ones that are alike at the top.
func pairs(yield func(a, b api.Dyad) bool) {
	for _, a := range edges() {
		for _, b := range edges() {
			if !yield(a, b) {
				return
			}
		}
	}
	s := &source{3}
	for range 20000 {
		if !yield(s.dyad(200, 200), s.dyad(100, 200)) || !yield(s.dyad(6, 4), s.dyad(6, 4)) {
			return
		}
		a := s.dyad(150, 100)
		x := numberOf(a)
		x.n.Lsh(x.n, uint(s.below(100))).Add(x.n, big.NewInt(int64(s.below(3)-1)))
		b, _ := plainOf(number{x.n, x.e})
		if !yield(a, b) {
			return
		}
	}
}

func TestCmp(t *testing.T) {
	for a, b := range pairs {
		x, y, _ := align(numberOf(a), numberOf(b))
		if got, ok := dyad.Cmp(a, b); !ok || got != x.Cmp(y) {
			t.Fatalf("Cmp(%v, %v) = %d, %v", show(a), show(b), got, ok)
		}
	}
	for _, d := range notPlain() {
		for _, b := range append(notPlain(), of(1, 0), of(-5, 3), api.Dyad{}) {
			if got, ok := dyad.Cmp(d, b); ok || got != 0 {
				t.Errorf("Cmp(%v, %v) = %d, %v", show(d), show(b), got, ok)
			}
			if got, ok := dyad.Cmp(b, d); ok || got != 0 {
				t.Errorf("Cmp(%v, %v) = %d, %v", show(b), show(d), got, ok)
			}
		}
	}
}

func TestMul(t *testing.T) {
	for a, b := range pairs {
		x, y := numberOf(a), numberOf(b)
		got, ok := dyad.Mul(a, b)
		expect(t, got, ok, number{new(big.Int).Mul(x.n, y.n), x.e + y.e}, "Mul", show(a), show(b))
	}
	for _, d := range notPlain() {
		for _, b := range []api.Dyad{{}, of(1, 0), of(-5, 3), d} {
			got, ok := dyad.Mul(d, b)
			refused(t, got, ok, "Mul", show(d), show(b))
			got, ok = dyad.Mul(b, d)
			refused(t, got, ok, "Mul", show(b), show(d))
		}
	}
}

func TestMulAtTheBounds(t *testing.T) {
	half := ones(api.MaxBits/2, 0)
	got, ok := dyad.Mul(half, half)
	x := numberOf(half)
	expect(t, got, ok, number{x.n.Mul(x.n, x.n), 0}, "the longest square")
	if !ok {
		t.Error("a product of MaxBits bits was refused")
	}
	longer := ones(api.MaxBits/2+1, 0)
	got, ok = dyad.Mul(half, longer)
	refused(t, got, ok, "a product of one bit more")
	got, ok = dyad.Mul(of(3, api.MaxExp-5), of(-1, 5))
	expect(t, got, ok, number{big.NewInt(-3), api.MaxExp}, "the greatest E")
	got, ok = dyad.Mul(of(3, api.MaxExp-5), of(1, 6))
	refused(t, got, ok, "an E that is too great")
	got, ok = dyad.Mul(of(3, -api.MaxExp+5), of(-1, -5))
	expect(t, got, ok, number{big.NewInt(-3), -api.MaxExp}, "the least E")
	got, ok = dyad.Mul(of(3, -api.MaxExp+5), of(1, -6))
	refused(t, got, ok, "an E that is too small")
	got, ok = dyad.Mul(of(1, api.MaxExp), api.Dyad{})
	expect(t, got, ok, number{new(big.Int), 0}, "0 times the greatest")
}
