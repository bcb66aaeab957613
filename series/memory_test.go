package series_test

import (
	"testing"

	"volvelle/api"
	"volvelle/series"
)

// R4 and R7, P0.5: nothing is kept from call to call, and who was answered may
// do with it as he likes.

func scribble(m []uint64) {
	m = m[:cap(m)]
	for i := range m {
		m[i] = 0xDEAD
	}
}

func TestNothingIsKept(t *testing.T) {
	bits := []int{16, 17, 53, 64, 100, 128, 1000, 7000}
	var first []api.Span
	for _, p := range bits {
		for _, x := range constants() {
			got := x.call(calc(p))
			first = append(first, copied(got))
			scribble(got.Lo.M)
			if !sameDyad(got.Hi, first[len(first)-1].Hi) {
				t.Errorf("the ends of %s with %d bits share memory", x.name, p)
			}
			scribble(got.Hi.M)
		}
	}
	// The other way round, with one calc for all.
	used := &series.Calc{}
	i := len(first)
	for at := range bits {
		for k := range constants() {
			i--
			x := constants()[len(constants())-1-k]
			used.P = bits[len(bits)-1-at]
			if got := x.call(used); !same(got, first[i]) {
				t.Errorf("%s with %d bits answers otherwise the second time", x.name, used.P)
			}
		}
	}
	if used.Bad {
		t.Error("the calc is bad")
	}
}

// A calc is what its work is: a copy of it is a calc of its own.
func TestCopiedCalc(t *testing.T) {
	c := calc(60)
	other := *c
	other.Fail()
	if c.Bad || isZero(c.Pi()) || !isZero(other.Pi()) {
		t.Error(*c, other)
	}
}
