package cmath_test

import (
	"math"
	"math/big"
	"sort"

	"volvelle/api"
)

// Rounding by nothing but holding a component against numbers.

// against tells whether a component is below a number (-1), the same, or above.
type against func(m *big.Float) int

// located: where a component lies among the numbers that words stand for, of its
// size: the word next to it on the side of 0, whether it is that, and where it
// lies in the gap behind it: -1, 0, 1 as below the middle, that, above; whether
// it is 2^1024 at least, or below 2^-1022.
type located struct {
	isZero        bool
	side, low     uint64
	isWord        bool
	middle        int
	isFar, isTiny bool
}

// sized answers the number of a word of sign 0, or, of the infinity, 2^1024.
func sized(b uint64) *big.Float {
	if b == infinity {
		return new(big.Float).SetMantExp(big.NewFloat(1), 1024)
	}
	return big.NewFloat(math.Float64frombits(b))
}

// numeral answers the number of a word that isn't an infinity.
func numeral(b uint64) *big.Float {
	x := sized(b &^ sign)
	if b&sign != 0 {
		x.Neg(x)
	}
	return x
}

// ofSize answers the component's size, held against numbers.
func (a against) ofSize(side int) against {
	if side >= 0 {
		return a
	}
	return func(m *big.Float) int { return -a(new(big.Float).Neg(m)) }
}

func (a against) locate() located {
	side := a(new(big.Float))
	if side == 0 {
		return located{isZero: true}
	}
	size := a.ofSize(side)
	var l located
	if side < 0 {
		l.side = sign
	}
	above := sort.Search(int(infinity)-1, func(n int) bool { return size(sized(uint64(n)+1)) < 0 })
	l.low = uint64(above)
	low, high := sized(l.low), sized(l.low+1)
	l.isWord = size(low) == 0
	middle := new(big.Float).SetPrec(100).Add(low, high)
	l.middle = size(middle.SetMantExp(middle, -1))
	l.isFar = size(sized(infinity)) >= 0
	if l.isFar {
		l.middle = 1
	}
	l.isTiny = size(sized(leastNormal)) < 0
	return l
}

// rounded answers the word and the flags in a mode.
func (l located) rounded(mode int) (uint64, int) {
	if l.isZero {
		return 0, 0
	}
	if l.isWord {
		return l.low | l.side, 0
	}
	word := l.low
	if l.isOutward(mode) {
		word++
	}
	flags := api.Inexact
	if l.isFar || word == infinity {
		flags += api.Overflow
	}
	if l.isTiny {
		flags += api.Underflow
	}
	return word | l.side, flags
}

func (l located) isOutward(mode int) bool {
	switch mode {
	case api.Even:
		return l.middle > 0 || l.middle == 0 && l.low%2 == 1
	case api.Up:
		return l.side == 0
	case api.Down:
		return l.side != 0
	case api.Away:
		return l.middle >= 0
	}
	return false
}
