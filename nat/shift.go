package nat

import "volvelle/api"

// Shl answers a times 2 to the n; nil if n isn't 0 to api.MaxShift.
func Shl(a []uint64, n int) []uint64 {
	if n < 0 || n > api.MaxShift {
		return nil
	}
	return raise(view(a), n)
}

// Shr answers a over 2 to the n, cut; nil if n isn't 0 to api.MaxShift.
func Shr(a []uint64, n int) []uint64 {
	if n < 0 || n > api.MaxShift {
		return nil
	}
	return lower(view(a), n)
}

// raise is Shl of a trimmed list, for any n that isn't below 0: roots of long
// lists shift by more than api.MaxShift.
func raise(a []uint64, n int) []uint64 {
	if len(a) == 0 {
		return nil
	}
	words, rest := n/wordBits, uint(n%wordBits)
	raised := make([]uint64, words+len(a)+1)
	for i, x := range a {
		raised[words+i] |= x << rest
		raised[words+i+1] = x >> (wordBits - rest)
	}
	return view(raised)
}

// lower is Shr of a trimmed list, for any n that isn't below 0.
func lower(a []uint64, n int) []uint64 {
	words, rest := n/wordBits, uint(n%wordBits)
	if words >= len(a) {
		return nil
	}
	lowered := make([]uint64, len(a)-words)
	for i := range lowered {
		lowered[i] = a[words+i] >> rest
		if words+i+1 < len(a) {
			lowered[i] |= a[words+i+1] << (wordBits - rest)
		}
	}
	return view(lowered)
}

// lowest answers the n lowest bits of a.
func lowest(a []uint64, n int) []uint64 {
	words, rest := n/wordBits, uint(n%wordBits)
	low := make([]uint64, words+1)
	copy(low, a)
	low[words] &= 1<<rest - 1
	return view(low)
}
