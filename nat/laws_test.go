package nat_test

import (
	"slices"
	"testing"

	"volvelle/nat"
)

// P1.2: sums, products, quotients and roots go together as they do. These
// tests hold the calls against each other alone.

func TestSumsAndDifferences(t *testing.T) {
	for a, b := range pairs {
		sum := nat.Add(a, b)
		if !slices.Equal(sum, nat.Add(b, a)) {
			t.Fatalf("Add of %x and %x, either way", a, b)
		}
		back, ok := nat.Sub(sum, b)
		if !ok || !slices.Equal(back, nat.Trim(a)) {
			t.Fatalf("the sum of %x and %x less the second = %x, %v", a, b, back, ok)
		}
		if _, ok := nat.Sub(a, b); ok != (nat.Cmp(a, b) >= 0) {
			t.Fatalf("Sub and Cmp of %x and %x", a, b)
		}
		if nat.Cmp(a, b) != -nat.Cmp(b, a) {
			t.Fatalf("Cmp of %x and %x, either way", a, b)
		}
	}
}

func TestProductsAndSums(t *testing.T) {
	w := &words{4}
	for a, b := range pairs {
		product := nat.Mul(a, b)
		if !slices.Equal(product, nat.Mul(b, a)) {
			t.Fatalf("Mul of %x and %x, either way", a, b)
		}
		c := w.list(4)
		apart := nat.Add(product, nat.Mul(a, c))
		if !slices.Equal(apart, nat.Mul(a, nat.Add(b, c))) {
			t.Fatalf("%x times the sum of %x and %x", a, b, c)
		}
	}
}

func TestQuotientsAndProducts(t *testing.T) {
	w := &words{5}
	for a, b := range pairs {
		q, r, ok := nat.DivMod(a, b)
		if ok != (nat.Bits(b) > 0) {
			t.Fatalf("DivMod(%x, %x): %v", a, b, ok)
		}
		if !ok {
			continue
		}
		if nat.Cmp(r, b) >= 0 || !slices.Equal(nat.Add(nat.Mul(q, b), r), nat.Trim(a)) {
			t.Fatalf("DivMod(%x, %x) = %x, %x", a, b, q, r)
		}
		_, r, _ = nat.DivMod(w.list(5), b)
		gotQ, gotR, ok := nat.DivMod(nat.Add(nat.Mul(a, b), r), b)
		if !ok || !slices.Equal(gotQ, nat.Trim(a)) || !slices.Equal(gotR, r) {
			t.Fatalf("%x times %x and %x, divided again = %x, %x", a, b, r, gotQ, gotR)
		}
	}
}

func TestRootsAndSquares(t *testing.T) {
	for a := range singles {
		s, r := nat.Sqrt(a)
		if !slices.Equal(nat.Add(nat.Mul(s, s), r), nat.Trim(a)) {
			t.Fatalf("the square of the root of %x, and the rest", a)
		}
		if nat.Cmp(r, nat.Add(s, s)) > 0 {
			t.Fatalf("the rest of %x tells a greater root", a)
		}
	}
}

func TestShiftsAndProducts(t *testing.T) {
	power := list{1}
	for n := range 140 {
		for a := range limited(300) {
			up := nat.Shl(a, n)
			if !slices.Equal(up, nat.Mul(a, power)) || !slices.Equal(nat.Shr(up, n), nat.Trim(a)) {
				t.Fatalf("Shl(%x, %d) = %x", a, n, up)
			}
			q, _, _ := nat.DivMod(a, power)
			if !slices.Equal(nat.Shr(a, n), q) {
				t.Fatalf("Shr(%x, %d) = %x", a, n, nat.Shr(a, n))
			}
			if nat.Bits(a) > 0 && nat.Bits(up) != nat.Bits(a)+n {
				t.Fatalf("Bits of %x, %d higher", a, n)
			}
		}
		power = nat.Add(power, power)
	}
}

// limited goes over a few lists of any shape.
func limited(n int) func(yield func(a list) bool) {
	return func(yield func(a list) bool) {
		w := &words{6}
		for range n {
			if !yield(w.list(5)) {
				return
			}
		}
	}
}
