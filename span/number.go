package span

import (
	"cmp"

	"volvelle/api"
	"volvelle/dyad"
	"volvelle/nat"
)

// A number is what comes of plain dyads ahead of being cut. It needn't be
// plain itself: only what is answered must be, and a sum of numbers that lie
// far apart, or a product of long ones, is, once it is cut.
type number api.Dyad

// sum answers the sum of two plain dyads, with all its bits.
func sum(a, b api.Dyad) number {
	// Next to a 0, whose E is 0, the other one needn't be moved.
	switch {
	case len(a.M) == 0:
		return number(b)
	case len(b.M) == 0:
		return number(a)
	}
	// Exponents of plain dyads differ by twice api.MaxExp at most, which is
	// within api.MaxShift.
	low := min(a.E, b.E)
	x, y := nat.Shl(a.M, a.E-low), nat.Shl(b.M, b.E-low)
	if a.Neg == b.Neg {
		return number{Neg: a.Neg, M: nat.Add(x, y), E: low}
	}
	if rest, ok := nat.Sub(x, y); ok {
		return number{Neg: a.Neg, M: rest, E: low}
	}
	rest, _ := nat.Sub(y, x)
	return number{Neg: b.Neg, M: rest, E: low}
}

// product answers the product of two plain dyads, with all its bits.
func product(a, b api.Dyad) number {
	return number{Neg: a.Neg != b.Neg, M: nat.Mul(a.M, b.M), E: a.E + b.E}
}

// products answers the least and the greatest product of numbers of two right
// spans. By the signs two products tell it, where four would have to be held
// against each other.
func products(a, b api.Span) (low, high number) {
	switch {
	case !b.Lo.Neg:
		return product(a.Lo, either(a.Lo.Neg, b.Hi, b.Lo)), product(a.Hi, either(a.Hi.Neg, b.Lo, b.Hi))
	case !above(b.Hi):
		return product(a.Hi, either(a.Hi.Neg, b.Hi, b.Lo)), product(a.Lo, either(a.Lo.Neg, b.Lo, b.Hi))
	case !a.Lo.Neg || !above(a.Hi):
		// 0 is inside b alone.
		return products(b, a)
	}
	low = greaterSize(product(a.Lo, b.Hi), product(a.Hi, b.Lo))
	high = greaterSize(product(a.Lo, b.Lo), product(a.Hi, b.Hi))
	return low, high
}

// above tells whether a plain dyad is above 0.
func above(d api.Dyad) bool {
	return !d.Neg && len(d.M) > 0
}

func either(first bool, a, b api.Dyad) api.Dyad {
	if first {
		return a
	}
	return b
}

// greaterSize answers the one that is farther from 0, of products of plain
// dyads that aren't 0.
func greaterSize(a, b number) number {
	order := cmp.Compare(a.top(), b.top())
	if order == 0 {
		// With the same top exponents differ by fewer bits than a product has.
		low := min(a.E, b.E)
		order = nat.Cmp(nat.Shl(a.M, a.E-low), nat.Shl(b.M, b.E-low))
	}
	if order < 0 {
		return b
	}
	return a
}

// top answers the least k with the number below 2 to the k in size, of one
// that isn't 0.
func (n number) top() int {
	return n.E + nat.Bits(n.M)
}

// cut answers the greatest dyad of p bits that isn't above the number, or, if
// up, the least one that isn't below; false if that isn't plain.
func (n number) cut(p int, up bool) (api.Dyad, bool) {
	drop := max(nat.Bits(n.M)-p, 0)
	kept := nat.Shr(n.M, drop)
	lost := nat.Cmp(nat.Shl(kept, drop), n.M) != 0
	// Of a number below 0 up leads to the lesser size.
	if lost && up != n.Neg {
		kept = nat.Add(kept, []uint64{1})
	}
	return dyad.Make(n.Neg, kept, n.E+drop)
}
