package dyad_test

import (
	"testing"

	"volvelle/api"
	"volvelle/dyad"
	"volvelle/nat"
)

// P2.2: what is cut down and up encloses, and is near. These tests hold the
// calls against each other alone.

// inOrder tells whether each is not above the next.
func inOrder(l ...api.Dyad) bool {
	for i := 1; i < len(l); i++ {
		if order, ok := dyad.Cmp(l[i-1], l[i]); !ok || order > 0 {
			return false
		}
	}
	return true
}

// checkNear: both have p bits, and are the same or differ by one in the last
// bit, as it stands in the lesser one in size.
func checkNear(t *testing.T, low, high api.Dyad, p int) {
	t.Helper()
	get := orFail(t)
	if nat.Bits(low.M) > p || nat.Bits(high.M) > p {
		t.Fatalf("%v and %v have more than %d bits", show(low), show(high), p)
	}
	if same(low, high) {
		return
	}
	lesser := low
	if low.Neg {
		lesser = high
	}
	last := get(dyad.Make(false, list{1}, lesser.E+nat.Bits(lesser.M)-p))
	gap := get(dyad.Sum(high, get(dyad.Neg(low))))
	if !same(gap, last) {
		t.Fatalf("%v and %v, of %d bits, differ by %v", show(low), show(high), p, show(gap))
	}
}

// both answers what a call answers down and up.
func both(t *testing.T, call func(up bool) (api.Dyad, bool)) (low, high api.Dyad) {
	t.Helper()
	get := orFail(t)
	return get(call(down)), get(call(up))
}

func TestCutEncloses(t *testing.T) {
	get := orFail(t)
	s := &source{8}
	for range 30000 {
		d, p := s.dyad(250, 300), 1+s.below(260)
		low, high := both(t, func(up bool) (api.Dyad, bool) { return dyad.Cut(d, p, up) })
		if !inOrder(low, d, high) {
			t.Fatalf("%v isn't between %v and %v", d, low, high)
		}
		checkNear(t, low, high, p)
		if same(low, high) != (nat.Bits(d.M) <= p) {
			t.Fatalf("%v with %d bits: %v and %v", d, p, low, high)
		}
		// What has been cut stays.
		again := get(dyad.Cut(low, p, up))
		if !same(again, low) {
			t.Fatalf("%v cut again is %v", low, again)
		}
	}
}

func TestOverEncloses(t *testing.T) {
	get := orFail(t)
	s := &source{9}
	for range 30000 {
		a, b, p := s.dyad(200, 300), s.dyad(200, 300), 1+s.below(220)
		if len(b.M) == 0 {
			continue
		}
		low, high := both(t, func(up bool) (api.Dyad, bool) { return dyad.Over(a, b, p, up) })
		checkNear(t, low, high, p)
		x, y := get(dyad.Mul(low, b)), get(dyad.Mul(high, b))
		if b.Neg {
			x, y = y, x
		}
		if !inOrder(x, a, y) {
			t.Fatalf("%v over %v isn't between %v and %v", a, b, low, high)
		}
	}
}

func TestRootEncloses(t *testing.T) {
	get := orFail(t)
	s := &source{10}
	for range 30000 {
		a, p := s.dyad(250, 300), 1+s.below(220)
		a.Neg = false
		low, high := both(t, func(up bool) (api.Dyad, bool) { return dyad.Root(a, p, up) })
		checkNear(t, low, high, p)
		if !inOrder(get(dyad.Mul(low, low)), a, get(dyad.Mul(high, high))) {
			t.Fatalf("the root of %v isn't between %v and %v", a, low, high)
		}
	}
}

func TestEnclosesWithMostBits(t *testing.T) {
	get := orFail(t)
	p := api.MaxPrec
	for _, d := range []api.Dyad{of(3, 0), of(2, 0), ones(api.MaxBits/2, 9), ones(100, -50), ends(8000, 1)} {
		low, high := both(t, func(up bool) (api.Dyad, bool) { return dyad.Over(of(1, 0), d, p, up) })
		checkNear(t, low, high, p)
		if !inOrder(get(dyad.Mul(low, d)), of(1, 0), get(dyad.Mul(high, d))) {
			t.Errorf("1 over %v", show(d))
		}
		low, high = both(t, func(up bool) (api.Dyad, bool) { return dyad.Root(d, p, up) })
		checkNear(t, low, high, p)
		if !inOrder(get(dyad.Mul(low, low)), d, get(dyad.Mul(high, high))) {
			t.Errorf("the root of %v", show(d))
		}
	}
}

func TestExactCallsGoTogether(t *testing.T) {
	get := orFail(t)
	s := &source{11}
	for range 20000 {
		a, b, c := s.dyad(150, 200), s.dyad(150, 200), s.dyad(150, 200)
		sum := get(dyad.Sum(a, b, c))
		if !same(sum, get(dyad.Sum(c, get(dyad.Sum(b, a))))) {
			t.Fatalf("the sum of %v, %v and %v", a, b, c)
		}
		apart := get(dyad.Sum(get(dyad.Mul(a, b)), get(dyad.Mul(c, b))))
		if !same(apart, get(dyad.Mul(get(dyad.Sum(a, c)), b))) {
			t.Fatalf("%v times the sum of %v and %v", b, a, c)
		}
		less := get(dyad.Neg(b))
		gap := get(dyad.Sum(a, less))
		order, _ := dyad.Cmp(a, b)
		side, _ := dyad.Cmp(gap, api.Dyad{})
		if order != side || !same(get(dyad.Sum(gap, b)), a) || !same(get(dyad.Neg(less)), b) {
			t.Fatalf("%v less %v", a, b)
		}
	}
}
