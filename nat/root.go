package nat

// Sqrt answers the greatest s whose square isn't above a, and a less that
// square.
func Sqrt(a []uint64) ([]uint64, []uint64) {
	return root(view(a))
}

// root works the root's upper half from a's upper half, and the lower half by
// one division. With k so chosen that the upper half's root has k bits at
// least, the sum of both is never too low, and too high by one at most.
func root(a []uint64) (s, rest []uint64) {
	if len(a) < 2 {
		return rootShort(a)
	}
	k := (Bits(a) - 1) / 4
	s, rest = root(lower(a, 2*k))
	middle := lowest(lower(a, k), k)
	q, rest, _ := DivMod(join(rest, middle, k), raise(s, 1))
	s = join(s, q, k)
	rest = join(rest, lowest(a, k), k)
	square := Mul(q, q)
	if Cmp(rest, square) < 0 {
		// (s - 1) squared is s squared less s and less s - 1.
		below, _ := Sub(s, []uint64{1})
		rest = Add(rest, Add(s, below))
		s = below
	}
	rest, _ = Sub(rest, square)
	return s, rest
}

// rootShort is root of a list of one word, or none.
func rootShort(a []uint64) (s, rest []uint64) {
	if len(a) == 0 {
		return nil, nil
	}
	r := rootWord(a[0])
	return view([]uint64{r}), view([]uint64{a[0] - r*r})
}

// rootWord tries the root's 32 bits, the highest first.
func rootWord(a uint64) uint64 {
	var r uint64
	for bit := uint64(1) << 31; bit > 0; bit >>= 1 {
		if t := r | bit; t*t <= a {
			r = t
		}
	}
	return r
}

// join answers 2 to the k times high, and low.
func join(high, low []uint64, k int) []uint64 {
	return Add(raise(high, k), low)
}
