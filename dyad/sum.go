package dyad

import (
	"math/bits"

	"volvelle/api"
	"volvelle/nat"
)

// Sum answers the sum of all, 0 of none; false also where an E is more than
// api.MaxExp above the least one of those that aren't 0. What is added up on
// the way needn't be plain, the sum alone.
func Sum(l ...api.Dyad) (api.Dyad, bool) {
	for _, d := range l {
		if !Plain(d) {
			return api.Dyad{}, false
		}
	}
	low, high, end := extent(l)
	if high-low > api.MaxExp {
		return api.Dyad{}, false
	}
	// Room for each number where it stands, and 64 bits for what the numbers,
	// fewer than 2^64, carry beyond the highest of them.
	room := (end-low)/wordBits + 3
	above, below := make([]uint64, room), make([]uint64, room)
	for _, d := range l {
		switch sign(d) {
		case 1:
			addAt(above, d.M, d.E-low)
		case -1:
			addAt(below, d.M, d.E-low)
		}
	}
	if rest, ok := nat.Sub(above, below); ok {
		return Make(false, rest, low)
	}
	rest, _ := nat.Sub(below, above)
	return Make(true, rest, low)
}

// extent answers the least and the greatest E, and the greatest top, of those
// plain dyads that aren't 0; zeros, if there are none.
func extent(l []api.Dyad) (low, high, end int) {
	found := false
	for _, d := range l {
		switch {
		case isZero(d):
		case !found:
			found = true
			low, high, end = d.E, d.E, top(d)
		default:
			low, high, end = min(low, d.E), max(high, d.E), max(end, top(d))
		}
	}
	return low, high, end
}

// addAt adds m times 2 to the n to sum in its own memory, so that many numbers
// that lie far apart cost no more than their own words. The sum has room.
func addAt(sum, m []uint64, n int) {
	var carry uint64
	i := n / wordBits
	for _, x := range nat.Shl(m, n%wordBits) {
		sum[i], carry = bits.Add64(sum[i], x, carry)
		i++
	}
	for ; carry != 0; i++ {
		sum[i], carry = bits.Add64(sum[i], 0, carry)
	}
}
