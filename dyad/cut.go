package dyad

import (
	"volvelle/api"
	"volvelle/nat"
)

// Cut answers the greatest number of p bits that isn't above d, or, if up, the
// least one that isn't below.
func Cut(d api.Dyad, p int, up bool) (api.Dyad, bool) {
	if !Plain(d) || !bitsFit(p) {
		return api.Dyad{}, false
	}
	return settle(d, false, p, up)
}

// Over answers the greatest number of p bits that isn't above a over b, or, if
// up, the least one that isn't below.
func Over(a, b api.Dyad, p int, up bool) (api.Dyad, bool) {
	if !Plain(a) || !Plain(b) || isZero(b) || !bitsFit(p) {
		return api.Dyad{}, false
	}
	// a is raised until the quotient has p bits at least.
	raise := max(p+nat.Bits(b.M)-nat.Bits(a.M), 0)
	quotient, rest, _ := nat.DivMod(nat.Shl(a.M, raise), b.M)
	cut := api.Dyad{Neg: a.Neg != b.Neg, M: quotient, E: a.E - b.E - raise}
	return settle(cut, len(rest) > 0, p, up)
}

// Root answers the greatest number of p bits that isn't above a's root, or, if
// up, the least one that isn't below.
func Root(a api.Dyad, p int, up bool) (api.Dyad, bool) {
	if !Plain(a) || a.Neg || !bitsFit(p) {
		return api.Dyad{}, false
	}
	// a is raised until its root has p bits at least, and its exponent has a
	// half.
	raise := max(2*p-nat.Bits(a.M), 0)
	if (a.E-raise)%2 != 0 {
		raise++
	}
	root, rest := nat.Sqrt(nat.Shl(a.M, raise))
	return settle(api.Dyad{M: root, E: (a.E - raise) / 2}, len(rest) > 0, p, up)
}

func bitsFit(p int) bool {
	return 1 <= p && p <= api.MaxPrec
}

// settle answers the number of p bits next to one that is d, or, if more, lies
// in size between d and the number whose M is greater by 1. d needn't be
// plain; if more, its M has p bits at least, so that nothing of p bits lies
// between these two.
func settle(d api.Dyad, more bool, p int, up bool) (api.Dyad, bool) {
	drop := max(nat.Bits(d.M)-p, 0)
	kept := nat.Shr(d.M, drop)
	more = more || nat.Cmp(nat.Shl(kept, drop), d.M) != 0
	// Of a number below 0 up leads to the lesser size.
	if more && up != d.Neg {
		kept = nat.Add(kept, []uint64{1})
	}
	return Make(d.Neg, kept, d.E+drop)
}
