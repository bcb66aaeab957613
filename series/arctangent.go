package series

import "volvelle/nat"

// A share is so many times the arctangent of 1/n. How wrong its units may be
// holds for times below 2^8, and n of 2 or more.
type share struct {
	times, n uint64
}

// units answers the share in units of 2 to the -bits, cut. It is wrong by less
// than 1 for the terms that are left out, and by less than 1 for what is cut.
func (s share) units(circular bool, bits int) []uint64 {
	all := s.between(circular, 0, s.terms(bits))
	factor := nat.Mul([]uint64{s.times}, []uint64{s.n})
	units, _, _ := nat.DivMod(nat.Shl(nat.Mul(all.sum, factor), bits), all.below)
	return units
}

// terms answers how many terms are enough: the first one that is left out then
// makes less than 1/n units, and all behind it less than that.
func (s share) terms(bits int) int {
	// The 32nd power tells the bits of n to a 32nd of one.
	power := []uint64{s.n}
	for range 5 {
		power = nat.Mul(power, power)
	}
	// Each term has n twice more in its divisor than the one ahead of it.
	return 16*(bits+8)/(nat.Bits(power)-1) + 1
}

// A stretch of the series, whose term at each place k from 0 on is
// 1/((2 k + 1) n^(2 k + 1)). What the stretch comes to, times n^(2 k - 1) of
// its first place, is sum over below; if the series is circular, where every
// other term is taken away, the first one of the stretch is added. odds is the
// product of all 2 k + 1, and below is odds times n^2 for each place.
type stretch struct {
	sum, odds, below []uint64
}

// between answers the stretch from first to ahead of end. It is split in
// halves, so that most products are of short numbers.
func (s share) between(circular bool, first, end int) stretch {
	if end-first == 1 {
		odd := []uint64{2*uint64(first) + 1}
		return stretch{sum: []uint64{1}, odds: odd, below: nat.Mul(odd, []uint64{s.n * s.n})}
	}
	middle := first + (end-first)/2
	front, back := s.between(circular, first, middle), s.between(circular, middle, end)
	sum, rest := nat.Mul(front.sum, back.below), nat.Mul(front.odds, back.sum)
	if circular && (middle-first)%2 == 1 {
		// The rest is the lesser one, as terms fall.
		sum, _ = nat.Sub(sum, rest)
	} else {
		sum = nat.Add(sum, rest)
	}
	return stretch{
		sum:   sum,
		odds:  nat.Mul(front.odds, back.odds),
		below: nat.Mul(front.below, back.below),
	}
}
