package special_test

import (
	"testing"

	"volvelle/api"
	"volvelle/arc"
	"volvelle/exact"
	"volvelle/part"
	"volvelle/span"
)

// P13.1: where it is special and where not, which words and flags there are, and
// how functions lie to each other.

// Special is where a word that counts stands for no number, and where part tells
// that it is singular; nothing is known beforehand there.
func TestWhereItIsSpecial(t *testing.T) {
	s := &source{3}
	for n := range 60000 {
		tag := n % 21
		z := s.four()
		want := counts(tag, z, isInfinite)+counts(tag, z, isNotOne) > 0 || part.Singular(tag, z)
		got := toldOf(tag, z)
		if got.is != want {
			t.Fatalf("%s: special %v", showCall(tag, z), got.is)
		}
		if !got.is && got != (told{}) {
			t.Fatalf("%s: %s", showCall(tag, z), show(got))
		}
		if got.is && exact.Known(tag, z) != [2]api.Fact{} {
			t.Fatalf("%s: special, and known", showCall(tag, z))
		}
	}
}

// isOwn tells whether a word is one that was handed in, but for its sign.
func isOwn(tag int, b, handedIn uint64) bool {
	return (tag == api.Conj || tag == api.Proj) && b&^sign == handedIn&^sign
}

// Each word that is no number is NaN; others are infinities, zeros, angles, or,
// of Conj and Proj, words that were handed in.
func TestWordsThatAreTold(t *testing.T) {
	s := &source{4}
	for n := range 60000 {
		tag := n % 21
		z := s.four()
		got := toldOf(tag, z)
		for i, b := range got.words {
			if isNotOne(b) && b != 0x7FF8000000000000 {
				t.Fatalf("%s: %s isn't NaN", showCall(tag, z), hex(b))
			}
			isAngle := got.flags&api.Inexact != 0 && (tag == api.Arg && i == 0 || tag == api.Log && i == 1)
			if !isZero(b) && !isInfinite(b) && b != api.NaN && !isAngle && !isOwn(tag, b, z[i]) {
				t.Fatalf("%s: %s", showCall(tag, z), show(got))
			}
		}
	}
}

// Invalid is told alone, and just where no word that counts is no number, and both
// words are NaN; DivZero just where it is singular, but of 0 over 0; neither
// Overflow nor Underflow is told at all.
func TestFlags(t *testing.T) {
	s := &source{5}
	for n := range 60000 {
		tag := n % 21
		z := s.four()
		got := toldOf(tag, z)
		isInvalid := got.words == [2]uint64{nan, nan} && counts(tag, z, isNotOne) == 0
		if (got.flags == api.Invalid) != isInvalid || isInvalid != (got.flags&api.Invalid != 0) {
			t.Fatalf("%s: %s", showCall(tag, z), show(got))
		}
		if (got.flags&api.DivZero != 0) != (part.Singular(tag, z) && !isInvalid) {
			t.Fatalf("%s: %s", showCall(tag, z), show(got))
		}
		if got.flags&^(api.Inexact|api.Invalid|api.DivZero) != 0 || got.flags != 0 && counts(tag, z, isNotOne) > 0 {
			t.Fatalf("%s: %s", showCall(tag, z), show(got))
		}
	}
}

// other answers a word with the other sign, but NaN as it is.
func other(b uint64) uint64 {
	if b == api.NaN {
		return b
	}
	return b ^ sign
}

// Of z and w with the other signs of y and v functions have their conjugates.
func TestConjugates(t *testing.T) {
	s := &source{6}
	for n := range 60000 {
		tag := n % 21
		z := s.four()
		want := toldOf(tag, z)
		if want.is {
			switch tag {
			case api.Abs:
			case api.Arg:
				want.words[0] = other(want.words[0])
			default:
				want.words[1] = other(want.words[1])
			}
		}
		same(t, tag, api.Four{z[0], z[1] ^ sign, z[2], z[3] ^ sign}, want)
	}
}

// Turned about the middle odd functions are turned, too; distances aren't, and
// NaN has no side. Of the functions that are left out neither holds.
func TestOddAndEven(t *testing.T) {
	s := &source{7}
	for n := range 60000 {
		tag := n % 21
		z := s.four()
		want := toldOf(tag, z)
		switch tag {
		case api.Arg, api.Proj, api.Sqrt, api.Exp, api.Log:
			continue
		case api.Conj, api.Div, api.Atan, api.Atanh:
			if want.is {
				want.words[0], want.words[1] = other(want.words[0]), other(want.words[1])
			}
		}
		z[0] ^= sign
		z[1] ^= sign
		same(t, tag, z, want)
	}
}

// beside answers z with the least numbers of their signs for zeros, and 1 or -1
// at a pole a bit nearer to 0.
func beside(tag int, z api.Four) api.Four {
	for i := range z {
		if isZero(z[i]) {
			z[i] |= leastSmall
		}
	}
	if tag == api.Atan {
		z[1]--
	}
	if tag == api.Atanh {
		z[0]--
	}
	return z
}

// The infinities and the zeros of singular points have the signs of the components
// next to them.
func TestSidesOfSingularPoints(t *testing.T) {
	for signs := range 4 {
		x, y := uint64(signs&1)<<63, uint64(signs>>1)<<63
		for _, k := range []struct {
			tag int
			z   api.Four
		}{{api.Log, api.Four{x, y}}, {api.Atan, api.Four{x, one | y}}, {api.Atanh, api.Four{one | x, y}}} {
			c := &arc.Calc{}
			c.P = 200
			near := part.Enclose(c, k.tag, beside(k.tag, k.z))
			got := toldOf(k.tag, k.z)
			for i, b := range got.words {
				if want := span.Sign(near[i]); want == 0 || c.Bad || (want < 0) != (b&sign != 0) {
					t.Errorf("%s: %s, beside it %d", showCall(k.tag, k.z), show(got), want)
				}
			}
		}
	}
}

// A number over a little u has the signs of what it is over 0.
func TestSidesOfQuotients(t *testing.T) {
	numbers := []uint64{one, three, one | sign, three | sign, leastSmall, greatest | sign}
	for _, x := range numbers {
		for _, y := range numbers {
			for _, u := range []uint64{0, sign} {
				c := &arc.Calc{}
				c.P = 200
				near := part.Enclose(c, api.Div, api.Four{x, y, u | leastSmall, 0})
				got := toldOf(api.Div, api.Four{x, y, u, 0})
				for i, b := range got.words {
					if c.Bad || (span.Sign(near[i]) < 0) != (b == minus) || !isInfinite(b) {
						t.Errorf("%x and %x over %x: %s", x, y, u, show(got))
					}
				}
			}
		}
	}
}

// The second component of Log is what Arg tells, with its flags.
func TestLogAndArg(t *testing.T) {
	s := &source{8}
	for range 20000 {
		z := s.four()
		log, arg := toldOf(api.Log, z), toldOf(api.Arg, z)
		if arg.is && (log.words[1] != arg.words[0] || log.flags != arg.flags) {
			t.Fatalf("%s: %s, but Arg %s", showCall(api.Log, z), show(log), show(arg))
		}
	}
}
