package part_test

import (
	"testing"

	"volvelle/api"
	"volvelle/part"
)

// P0.1, P11.1: what is worked ahead of being cut holds the components, too, with
// few bits, where each cut is seen; and what is lost is as little as the remarks
// tell.

// misses tells of each component what isn't held.
func misses(tag int, z api.Four, got [2]api.Span, bits int) (l [2]string) {
	want := far(bits+450).expected(tag, z)
	for i, a := range got {
		if !isHeld(a, want[i], bits+100) {
			l[i] = want[i].Text('g', 40)
		}
	}
	return l
}

// With few bits each end that is left out of a hull, and each end that is cut
// inward, is seen.
func TestWorkedWithFewBits(t *testing.T) {
	each(t, func(t *testing.T, tag int) {
		s := &source{uint64(800 + tag)}
		for range 300 {
			z, bits := s.four(tag), 24+s.below(40)
			got, bad := part.WorkedWith(bits, tag, z)
			if bad {
				// Of few bits a sine or a cosine next to 0 may be lost.
				if tag != api.Tan && tag != api.Tanh {
					t.Errorf("%s with %d bits is bad", showCall(tag, z), bits)
				}
				continue
			}
			for i, miss := range misses(tag, z, got, bits) {
				if miss != "" {
					t.Errorf("%s with %d bits, %d: %s doesn't hold %s", showCall(tag, z), bits, i, showSpan(got[i]), miss)
				}
			}
		}
	})
}

// Of the spare bits 48 are left at least.
func TestSpareBitsAreLeft(t *testing.T) {
	each(t, func(t *testing.T, tag int) {
		s := &source{uint64(900 + tag)}
		l := []api.Four{}
		for range 200 {
			l = append(l, s.anyFour(tag))
		}
		if isBounded(tag) {
			for _, b := range nearTurns(t) {
				l = append(l, at(b, 0), at(0, b), at(b, b), at(b, one))
			}
		}
		for n, z := range l {
			p := 16 + n
			got, bad := part.Worked(p, tag, z)
			for i, a := range got {
				if bad || !isWithin(a, p+48) {
					t.Errorf("%s with %d bits, %d: %s: more is lost than told", showCall(tag, z), p, i, showSpan(a))
				}
			}
		}
	})
}
