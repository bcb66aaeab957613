package nat

import "math/bits"

// Mul answers the product of a and b.
func Mul(a, b []uint64) []uint64 {
	a, b = view(a), view(b)
	if len(a) > len(b) {
		// The inner loop is the cheaper one: it goes over the longer list.
		a, b = b, a
	}
	product := make([]uint64, len(a)+len(b))
	for i, x := range a {
		end := i + len(b)
		product[end] = addTimes(product[i:end], b, x)
	}
	return view(product)
}

// addTimes adds x times b to the words of sum, as many as b has, and answers
// what is carried out of them.
func addTimes(sum, b []uint64, x uint64) uint64 {
	sum = sum[:len(b)]
	var carry uint64
	for i, y := range b {
		// high never overflows: x y and two words more are below 2^128.
		high, low := bits.Mul64(x, y)
		low, over := bits.Add64(low, sum[i], 0)
		high, _ = bits.Add64(high, 0, over)
		sum[i], over = bits.Add64(low, carry, 0)
		carry, _ = bits.Add64(high, 0, over)
	}
	return carry
}
