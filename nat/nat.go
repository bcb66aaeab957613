// Package nat works with natural numbers of any size: lists of words, the
// lowest first. Each call takes any lists, trimmed or not, leaves them as they
// are, and answers trimmed lists in memory of their own.
package nat

import (
	"cmp"
	"math/bits"
)

const wordBits = 64

// view answers the trimmed part of a in a's own memory, for reading alone.
// 0 is always nil, so that no answer hangs on how a zero was written.
func view(a []uint64) []uint64 {
	for n := len(a); n > 0; n-- {
		if a[n-1] != 0 {
			return a[:n]
		}
	}
	return nil
}

// Trim answers a without the zeros at its high end.
func Trim(a []uint64) []uint64 {
	return append([]uint64(nil), view(a)...)
}

// Cmp answers -1, 0 or 1: a is below b, the same, above.
func Cmp(a, b []uint64) int {
	a, b = view(a), view(b)
	if len(a) != len(b) {
		return cmp.Compare(len(a), len(b))
	}
	for i := len(a) - 1; i >= 0; i-- {
		if a[i] != b[i] {
			return cmp.Compare(a[i], b[i])
		}
	}
	return 0
}

// Bits answers the least n with a below 2 to the n.
func Bits(a []uint64) int {
	a = view(a)
	if len(a) == 0 {
		return 0
	}
	return (len(a)-1)*wordBits + bits.Len64(a[len(a)-1])
}

// Add answers the sum of a and b.
func Add(a, b []uint64) []uint64 {
	a, b = view(a), view(b)
	if len(a) < len(b) {
		a, b = b, a
	}
	sum := make([]uint64, len(a)+1)
	copy(sum, a)
	sum[len(a)] = addInto(sum[:len(a)], b)
	return view(sum)
}

// Sub answers a - b and true, or nil and false if b is above a.
func Sub(a, b []uint64) ([]uint64, bool) {
	a, b = view(a), view(b)
	if Cmp(a, b) < 0 {
		return nil, false
	}
	rest := make([]uint64, len(a))
	copy(rest, a)
	subFrom(rest, b)
	return view(rest), true
}

// addInto adds b to the words of sum, which are at least as many, and answers
// what is carried out of them.
func addInto(sum, b []uint64) uint64 {
	var carry uint64
	for i, y := range b {
		sum[i], carry = bits.Add64(sum[i], y, carry)
	}
	for i := len(b); i < len(sum) && carry != 0; i++ {
		sum[i], carry = bits.Add64(sum[i], 0, carry)
	}
	return carry
}

// subFrom takes b from the words of rest, which stand for no less than b does.
func subFrom(rest, b []uint64) {
	var borrow uint64
	for i, y := range b {
		rest[i], borrow = bits.Sub64(rest[i], y, borrow)
	}
	for i := len(b); i < len(rest) && borrow != 0; i++ {
		rest[i], borrow = bits.Sub64(rest[i], 0, borrow)
	}
}
