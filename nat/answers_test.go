package nat_test

import (
	"math"
	"math/big"
	"slices"
	"testing"

	"volvelle/api"
	"volvelle/nat"
)

// P1.1: each call answers as the chapter says.

func TestTrim(t *testing.T) {
	equal(t, "nothing", nat.Trim(nil), nil)
	equal(t, "zeros", nat.Trim(list{0, 0, 0}), nil)
	equal(t, "zeros above", nat.Trim(list{0, 3, 0, 0}), list{0, 3})
	equal(t, "trimmed", nat.Trim(list{0, 0, 7}), list{0, 0, 7})
	for a := range singles {
		if !same(nat.Trim(a), toBig(a)) {
			t.Fatalf("Trim(%x) = %x", a, nat.Trim(a))
		}
	}
}

func TestCmp(t *testing.T) {
	for _, x := range []struct {
		a, b list
		want int
	}{
		{nil, nil, 0},
		{nil, list{0, 0}, 0},
		{list{0}, list{1}, -1},
		{list{1, 0, 0}, list{1}, 0},
		{list{most}, list{0, 1}, -1},
		{list{0, 1}, list{most}, 1},
		{list{1, 2}, list{2, 1}, 1},
		{list{half}, list{1}, 1},
		{list{1, 5}, list{2, 5, 0}, -1},
		{list{0, 0, 1}, list{most, most, 0, 0}, 1},
	} {
		if got := nat.Cmp(x.a, x.b); got != x.want {
			t.Errorf("Cmp(%x, %x) = %d", x.a, x.b, got)
		}
	}
	for a, b := range pairs {
		if got := nat.Cmp(a, b); got != toBig(a).Cmp(toBig(b)) {
			t.Fatalf("Cmp(%x, %x) = %d", a, b, got)
		}
	}
}

func TestAdd(t *testing.T) {
	equal(t, "0 and 0", nat.Add(nil, list{0, 0}), nil)
	equal(t, "0 and 5", nat.Add(list{0}, list{5, 0}), list{5})
	equal(t, "carry through all", nat.Add(list{1}, list{most, most, most}), list{0, 0, 0, 1})
	equal(t, "carry that ends", nat.Add(list{most, 7, 9}, list{1}), list{0, 8, 9})
	equal(t, "carry at every word", nat.Add(list{most, most}, list{most, most}), list{most - 1, most, 1})
	for a, b := range pairs {
		if got := nat.Add(a, b); !same(got, new(big.Int).Add(toBig(a), toBig(b))) {
			t.Fatalf("Add(%x, %x) = %x", a, b, got)
		}
	}
}

func TestSub(t *testing.T) {
	for _, x := range []struct {
		a, b, want list
		ok         bool
	}{
		{nil, nil, nil, true},
		{list{0, 0}, list{0}, nil, true},
		{list{7, 7}, list{7, 7, 0}, nil, true},
		{list{0, 0, 1}, list{1}, list{most, most}, true},
		{list{0, 5, 1}, list{1, 0, 0, 0}, list{most, 4, 1}, true},
		{list{3, 1}, list{2, 1}, list{1}, true},
		{nil, list{1}, nil, false},
		{list{1, 0, 0}, list{2}, nil, false},
		{list{most}, list{0, 1}, nil, false},
		{list{2, 1}, list{3, 1}, nil, false},
	} {
		got, ok := nat.Sub(x.a, x.b)
		equal(t, "Sub", got, x.want)
		if ok != x.ok {
			t.Errorf("Sub(%x, %x): %v", x.a, x.b, ok)
		}
	}
	for a, b := range pairs {
		got, ok := nat.Sub(a, b)
		want := new(big.Int).Sub(toBig(a), toBig(b))
		if want.Sign() < 0 && (ok || got != nil) || want.Sign() >= 0 && (!ok || !same(got, want)) {
			t.Fatalf("Sub(%x, %x) = %x, %v", a, b, got, ok)
		}
	}
}

func TestMul(t *testing.T) {
	equal(t, "0 by 0", nat.Mul(nil, nil), nil)
	equal(t, "0 by 5", nat.Mul(list{0, 0}, list{5}), nil)
	equal(t, "5 by 0", nat.Mul(list{5}, nil), nil)
	equal(t, "1 by all", nat.Mul(list{1, 0}, list{3, 0, 4}), list{3, 0, 4})
	equal(t, "2^64 - 1 by itself", nat.Mul(list{most}, list{most}), list{1, most - 1})
	equal(t, "2^128 - 1 by itself", nat.Mul(list{most, most}, list{most, most}), list{1, 0, most - 1, most})
	for a, b := range pairs {
		if got := nat.Mul(a, b); !same(got, new(big.Int).Mul(toBig(a), toBig(b))) {
			t.Fatalf("Mul(%x, %x) = %x", a, b, got)
		}
	}
}

func checkDivMod(t *testing.T, a, b list) {
	t.Helper()
	q, r, ok := nat.DivMod(a, b)
	divisor := toBig(b)
	if divisor.Sign() == 0 {
		if ok || q != nil || r != nil {
			t.Fatalf("DivMod(%x, %x) = %x, %x, %v", a, b, q, r, ok)
		}
		return
	}
	quotient, rest := new(big.Int).QuoRem(toBig(a), divisor, new(big.Int))
	if !ok || !same(q, quotient) || !same(r, rest) {
		t.Fatalf("DivMod(%x, %x) = %x, %x, %v", a, b, q, r, ok)
	}
}

func TestDivMod(t *testing.T) {
	for a, b := range pairs {
		checkDivMod(t, a, b)
	}
	for _, zero := range []list{nil, {}, {0}, {0, 0, 0}} {
		for _, a := range []list{nil, {0}, {1}, {most, most, most}} {
			checkDivMod(t, a, zero)
		}
	}
}

// Guesses of a quotient's word may be too high: by the second word of the
// divisor, or, seldom, by a lower one alone; and the first words may be alike.
func TestDivModGuesses(t *testing.T) {
	for _, x := range [][2]list{
		{{0, 0, half, half - 1}, {1, 0, half}},
		{{3, 0, half}, {1, 0, half >> 2}},
		{{0, most - 1, half}, {most, half}},
		{{0, 0, 0, half, half - 1}, {1, 0, 0, half}},
		{{0, 0, half}, {most, half}},
		{{0, 0, most - 1, half}, {0, most, half}},
		{{0, 0, most - 1, half}, {1, most, half}},
		{{most, most, most - 1, half}, {most, most, half}},
		{{0, most, most - 1}, {most, most}},
		{{most, most, most, most - 1}, {most, most, most}},
	} {
		checkDivMod(t, x[0], x[1])
	}
	w := &words{3}
	for range 20000 {
		divisor := nat.Add(w.list(4), list{0, 1})
		product := nat.Mul(divisor, w.list(4))
		checkDivMod(t, product, divisor)
		checkDivMod(t, nat.Add(product, list{w.next() % 3}), divisor)
		if less, ok := nat.Sub(product, list{1}); ok {
			checkDivMod(t, less, divisor)
		}
	}
}

func TestShl(t *testing.T) {
	for a := range singles {
		for _, n := range []int{0, 1, 63, 64, 65, 127, 128, 200} {
			if got := nat.Shl(a, n); !same(got, new(big.Int).Lsh(toBig(a), uint(n))) {
				t.Fatalf("Shl(%x, %d) = %x", a, n, got)
			}
		}
	}
}

func TestShr(t *testing.T) {
	for a := range singles {
		for _, n := range []int{0, 1, 63, 64, 65, 127, 128, 200, 1000} {
			if got := nat.Shr(a, n); !same(got, new(big.Int).Rsh(toBig(a), uint(n))) {
				t.Fatalf("Shr(%x, %d) = %x", a, n, got)
			}
		}
	}
}

func TestShiftsAtTheirLimits(t *testing.T) {
	if api.MaxShift != 1<<20 {
		t.Fatal("MaxShift isn't 2^20")
	}
	top := make(list, api.MaxShift/64+1)
	top[api.MaxShift/64] = 5
	equal(t, "up by MaxShift", nat.Shl(list{5, 0}, api.MaxShift), top)
	equal(t, "down by MaxShift", nat.Shr(top, api.MaxShift), list{5})
	equal(t, "up by one less", nat.Shl(list{10}, api.MaxShift-1), top)
	equal(t, "down by one less", nat.Shr(top, api.MaxShift-1), list{10})
	equal(t, "all of it down", nat.Shr(list{most, most}, api.MaxShift), nil)
	equal(t, "0 up", nat.Shl(list{0, 0}, api.MaxShift), nil)
	for _, n := range []int{-1, -64, math.MinInt, api.MaxShift + 1, api.MaxShift + 64, math.MaxInt} {
		if nat.Shl(list{1, 2}, n) != nil || nat.Shr(top, n) != nil || nat.Shl(nil, n) != nil || nat.Shr(nil, n) != nil {
			t.Error("shifted by", n)
		}
	}
}

func TestBits(t *testing.T) {
	for _, x := range []struct {
		a    list
		want int
	}{
		{nil, 0}, {list{0, 0}, 0}, {list{1}, 1}, {list{2}, 2}, {list{3, 0}, 2}, {list{4}, 3},
		{list{most}, 64}, {list{0, 1}, 65}, {list{most, most, 0, 0}, 128}, {list{0, 0, half}, 192},
	} {
		if got := nat.Bits(x.a); got != x.want {
			t.Errorf("Bits(%x) = %d", x.a, got)
		}
	}
	for a := range singles {
		if got := nat.Bits(a); got != toBig(a).BitLen() {
			t.Fatalf("Bits(%x) = %d", a, got)
		}
	}
}

func checkSqrt(t *testing.T, a list) {
	t.Helper()
	n := toBig(a)
	root := new(big.Int).Sqrt(n)
	rest := new(big.Int).Sub(n, new(big.Int).Mul(root, root))
	if s, r := nat.Sqrt(a); !same(s, root) || !same(r, rest) {
		t.Fatalf("Sqrt(%x) = %x, %x", a, s, r)
	}
}

func TestSqrt(t *testing.T) {
	for _, zero := range []list{nil, {}, {0}, {0, 0, 0}} {
		s, r := nat.Sqrt(zero)
		equal(t, "root of 0", s, nil)
		equal(t, "rest of 0", r, nil)
	}
	s, r := nat.Sqrt(list{10})
	equal(t, "root of 10", s, list{3})
	equal(t, "rest of 10", r, list{1})
	for n := range uint64(2000) {
		checkSqrt(t, list{n})
		checkSqrt(t, list{most - n})
		checkSqrt(t, list{n, 1})
		checkSqrt(t, list{most - n, most})
	}
	for a := range singles {
		checkSqrt(t, a)
	}
}

func TestSqrtOfSquaresAndTheirNeighbours(t *testing.T) {
	for a := range singles {
		square := nat.Mul(a, a)
		s, r := nat.Sqrt(square)
		if nat.Cmp(s, a) != 0 || len(r) != 0 {
			t.Fatalf("Sqrt of the square of %x = %x, %x", a, s, r)
		}
		checkSqrt(t, nat.Add(square, list{1}))
		if len(square) == 0 {
			continue
		}
		less, _ := nat.Sub(square, list{1})
		checkSqrt(t, less)
		next := nat.Add(square, nat.Shl(a, 1))
		s, r = nat.Sqrt(next)
		if nat.Cmp(s, a) != 0 || nat.Cmp(r, nat.Shl(a, 1)) != 0 {
			t.Fatalf("Sqrt below the next square of %x = %x, %x", a, s, r)
		}
	}
}

// P0 and R6, as far as this layer goes: lists of 2^20 words, which are more
// bits than a call of Shl or Shr may shift by.
func TestLongLists(t *testing.T) {
	const n = 1 << 20
	full := slices.Repeat(list{most}, n)
	if nat.Bits(full) != 64*n || nat.Cmp(full, full[:n-1]) != 1 {
		t.Error("Bits or Cmp")
	}
	next := nat.Add(full, list{1})
	if len(next) != n+1 || next[n] != 1 || nat.Bits(next) != 64*n+1 {
		t.Error("Add")
	}
	back, ok := nat.Sub(next, list{1})
	if !ok || !slices.Equal(back, full) {
		t.Error("Sub")
	}
	product := nat.Mul(list{most}, full)
	if len(product) != n+1 || product[0] != 1 || product[1] != most || product[n] != most-1 {
		t.Error("Mul")
	}
	q, r, ok := nat.DivMod(product, full)
	if !ok || !slices.Equal(q, list{most}) || len(r) != 0 {
		t.Error("DivMod")
	}
	if shifted := nat.Shr(full, api.MaxShift); len(shifted) != n-api.MaxShift/64 {
		t.Error("Shr")
	}
	if s, r := nat.Sqrt(full[:1<<13]); !slices.Equal(s, full[:1<<12]) || nat.Cmp(r, nat.Shl(full[:1<<12], 1)) != 0 {
		t.Error("Sqrt")
	}
}

// The root of a list of more than four times api.MaxShift bits is worked by
// shifts that the exported calls refuse.
func TestSqrtPastMaxShift(t *testing.T) {
	const m = 2*api.MaxShift/64 + 4
	root, rest := make(list, m+1), make(list, m+1)
	root[m], rest[m] = 1, 2
	a := make(list, 2*m+1)
	a[m], a[2*m] = 2, 1
	s, r := nat.Sqrt(a)
	if !slices.Equal(s, root) || !slices.Equal(r, rest) {
		t.Errorf("a root of %d words, a rest of %d", len(s), len(r))
	}
	a[m] = 1
	rest[m] = 1
	s, r = nat.Sqrt(a)
	if !slices.Equal(s, root) || !slices.Equal(r, rest) {
		t.Errorf("a root of %d words, a rest of %d", len(s), len(r))
	}
}
