package bits_test

import (
	"math"
	"testing"

	"volvelle/bits"
)

// P9.1: Next answers as the chapter says.

const (
	up   = true
	down = false
)

func TestNext(t *testing.T) {
	for _, x := range []struct{ b, up, down uint64 }{
		{0x3FF0000000000000, 0x3FF0000000000001, 0x3FEFFFFFFFFFFFFF},
		{0xBFF0000000000000, 0xBFEFFFFFFFFFFFFF, 0xBFF0000000000001},
		{0x3FF8000000000000, 0x3FF8000000000001, 0x3FF7FFFFFFFFFFFF},
		{0xBFFFFFFFFFFFFFFF, 0xBFFFFFFFFFFFFFFE, 0xC000000000000000},
		{0x4340000000000000, 0x4340000000000001, 0x433FFFFFFFFFFFFF},
		{0x0000000000000000, 0x0000000000000001, 0x8000000000000001},
		{0x8000000000000000, 0x0000000000000001, 0x8000000000000001},
		{0x0000000000000001, 0x0000000000000002, 0x0000000000000000},
		{0x8000000000000001, 0x8000000000000000, 0x8000000000000002},
		{0x0000000000000002, 0x0000000000000003, 0x0000000000000001},
		{0x8000000000000002, 0x8000000000000001, 0x8000000000000003},
		{0x000FFFFFFFFFFFFF, 0x0010000000000000, 0x000FFFFFFFFFFFFE},
		{0x800FFFFFFFFFFFFF, 0x800FFFFFFFFFFFFE, 0x8010000000000000},
		{0x0010000000000000, 0x0010000000000001, 0x000FFFFFFFFFFFFF},
		{0x8010000000000000, 0x800FFFFFFFFFFFFF, 0x8010000000000001},
		{0x001FFFFFFFFFFFFF, 0x0020000000000000, 0x001FFFFFFFFFFFFE},
		{0x7FEFFFFFFFFFFFFE, 0x7FEFFFFFFFFFFFFF, 0x7FEFFFFFFFFFFFFD},
		{0x7FEFFFFFFFFFFFFF, 0x7FF0000000000000, 0x7FEFFFFFFFFFFFFE},
		{0xFFEFFFFFFFFFFFFF, 0xFFEFFFFFFFFFFFFE, 0xFFF0000000000000},
	} {
		if got, ok := bits.Next(x.b, up); !ok || got != x.up {
			t.Errorf("Next(%x, up) = %x, %v, not %x", x.b, got, ok, x.up)
		}
		if got, ok := bits.Next(x.b, down); !ok || got != x.down {
			t.Errorf("Next(%x, down) = %x, %v, not %x", x.b, got, ok, x.down)
		}
	}
}

func TestNextOfInfinities(t *testing.T) {
	for _, x := range []struct {
		b, want uint64
		up, ok  bool
	}{
		{infinity, 0, up, false},
		{infinity, 0x7FEFFFFFFFFFFFFF, down, true},
		{infinity | sign, 0xFFEFFFFFFFFFFFFF, up, true},
		{infinity | sign, 0, down, false},
	} {
		if got, ok := bits.Next(x.b, x.up); ok != x.ok || got != x.want {
			t.Errorf("Next(%x, %v) = %x, %v, not %x, %v", x.b, x.up, got, ok, x.want, x.ok)
		}
	}
}

func TestNextOfNoNumber(t *testing.T) {
	for _, b := range noNumbers() {
		for _, way := range []bool{up, down} {
			if got, ok := bits.Next(b, way); ok || got != 0 {
				t.Errorf("Next(%x, %v) = %x, %v", b, way, got, ok)
			}
		}
	}
}

func TestNextOfMany(t *testing.T) {
	for _, b := range numbers() {
		f := math.Float64frombits(b)
		above, below := math.Nextafter(f, math.Inf(1)), math.Nextafter(f, math.Inf(-1))
		if got, ok := bits.Next(b, up); !ok || got != math.Float64bits(above) {
			t.Fatalf("Next(%x, up) = %x, %v, not %x", b, got, ok, math.Float64bits(above))
		}
		if got, ok := bits.Next(b, down); !ok || got != math.Float64bits(below) {
			t.Fatalf("Next(%x, down) = %x, %v, not %x", b, got, ok, math.Float64bits(below))
		}
	}
}
