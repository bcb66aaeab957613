package bits_test

import (
	"math"
	"testing"

	"volvelle/api"
	"volvelle/bits"
)

// P9.1: Kind, Neg and Number answer as the chapter says.

func TestKind(t *testing.T) {
	if api.Zero != 0 || api.Small != 1 || api.Normal != 2 || api.Infinite != 3 || api.NotOne != 4 {
		t.Fatal("the kinds are others")
	}
	for _, x := range []struct {
		b    uint64
		kind int
	}{
		{0, api.Zero},
		{1, api.Small},
		{0x0008000000000000, api.Small},
		{0x000FFFFFFFFFFFFF, api.Small},
		{0x0010000000000000, api.Normal},
		{0x0010000000000001, api.Normal},
		{0x3FF0000000000000, api.Normal},
		{0x7FE0000000000000, api.Normal},
		{0x7FEFFFFFFFFFFFFF, api.Normal},
		{0x7FF0000000000000, api.Infinite},
		{0x7FF0000000000001, api.NotOne},
		{0x7FF7FFFFFFFFFFFF, api.NotOne},
		{0x7FF8000000000000, api.NotOne},
		{0x7FFFFFFFFFFFFFFF, api.NotOne},
	} {
		for _, b := range withSigns(x.b) {
			if got := bits.Kind(b); got != x.kind {
				t.Errorf("Kind(%x) = %d, not %d", b, got, x.kind)
			}
		}
	}
}

// kindOf answers the kind of the library's float.
func kindOf(f float64) int {
	switch {
	case f == 0:
		return api.Zero
	case math.IsNaN(f):
		return api.NotOne
	case math.IsInf(f, 0):
		return api.Infinite
	case math.Abs(f) < 0x1p-1022:
		return api.Small
	}
	return api.Normal
}

func TestKindOfMany(t *testing.T) {
	for _, b := range many() {
		if got, want := bits.Kind(b), kindOf(math.Float64frombits(b)); got != want {
			t.Fatalf("Kind(%x) = %d, not %d", b, got, want)
		}
	}
	for _, b := range noNumbers() {
		if bits.Kind(b) != api.NotOne {
			t.Errorf("Kind(%x) = %d", b, bits.Kind(b))
		}
	}
}

func TestNeg(t *testing.T) {
	for _, b := range many() {
		if bits.Neg(b&^sign) || !bits.Neg(b|sign) {
			t.Fatalf("Neg(%x) = %v, Neg(%x) = %v", b&^sign, bits.Neg(b&^sign), b|sign, bits.Neg(b|sign))
		}
		if bits.Neg(b) != math.Signbit(math.Float64frombits(b)) {
			t.Fatalf("Neg(%x) = %v", b, bits.Neg(b))
		}
	}
}

// pairs are words and the numbers that they stand for, written out.
func pairs() map[uint64]api.Dyad {
	return map[uint64]api.Dyad{
		0x0000000000000001: {M: []uint64{1}, E: -1074},
		0x0000000000000002: {M: []uint64{1}, E: -1073},
		0x0000000000000003: {M: []uint64{3}, E: -1074},
		0x0000000000000006: {M: []uint64{3}, E: -1073},
		0x0008000000000000: {M: []uint64{1}, E: -1023},
		0x000FFFFFFFFFFFFE: {M: []uint64{1<<51 - 1}, E: -1073},
		0x000FFFFFFFFFFFFF: {M: []uint64{1<<52 - 1}, E: -1074},
		0x0010000000000000: {M: []uint64{1}, E: -1022},
		0x0010000000000001: {M: []uint64{1<<52 + 1}, E: -1074},
		0x001FFFFFFFFFFFFF: {M: []uint64{1<<53 - 1}, E: -1074},
		0x0020000000000000: {M: []uint64{1}, E: -1021},
		0x0020000000000001: {M: []uint64{1<<52 + 1}, E: -1073},
		0x3FE0000000000000: {M: []uint64{1}, E: -1},
		0x3FEFFFFFFFFFFFFF: {M: []uint64{1<<53 - 1}, E: -53},
		0x3FF0000000000000: {M: []uint64{1}},
		0x3FF0000000000001: {M: []uint64{1<<52 + 1}, E: -52},
		0x3FF8000000000000: {M: []uint64{3}, E: -1},
		0x4000000000000000: {M: []uint64{1}, E: 1},
		0x4024000000000000: {M: []uint64{5}, E: 1},
		0x433FFFFFFFFFFFFF: {M: []uint64{1<<53 - 1}},
		0x4340000000000000: {M: []uint64{1}, E: 53},
		0x4340000000000001: {M: []uint64{1<<52 + 1}, E: 1},
		0x400921FB54442D18: {M: []uint64{0x1921FB54442D18 >> 3}, E: -48},
		0x7FE0000000000000: {M: []uint64{1}, E: 1023},
		0x7FEFFFFFFFFFFFFE: {M: []uint64{1<<52 - 1}, E: 972},
		0x7FEFFFFFFFFFFFFF: {M: []uint64{1<<53 - 1}, E: 971},
	}
}

func TestNumber(t *testing.T) {
	for b, d := range pairs() {
		if got, ok := bits.Number(b); !ok || !same(got, d) {
			t.Errorf("Number(%x) = %v, %v, not %v", b, got, ok, d)
		}
		if got, ok := bits.Number(b | sign); !ok || !same(got, negative(d)) {
			t.Errorf("Number(%x) = %v, %v, not %v", b|sign, got, ok, negative(d))
		}
	}
}

func TestNumberOfZeros(t *testing.T) {
	for _, b := range withSigns(0) {
		if d, ok := bits.Number(b); !ok || !same(d, api.Dyad{}) {
			t.Errorf("Number(%x) = %v, %v", b, d, ok)
		}
	}
}

func TestNumberOfMany(t *testing.T) {
	for _, b := range numbers() {
		d := numberOf(t, b)
		f, how := exactly(d).Float64()
		if how != 0 || f != math.Float64frombits(b) {
			t.Fatalf("Number(%x) = %v, not %v", b, d, math.Float64frombits(b))
		}
	}
}

func TestNumberOfNone(t *testing.T) {
	for _, b := range append(noNumbers(), withSigns(infinity)...) {
		if d, ok := bits.Number(b); ok || !same(d, api.Dyad{}) {
			t.Errorf("Number(%x) = %v, %v", b, d, ok)
		}
	}
}
