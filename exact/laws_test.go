package exact_test

import (
	"testing"

	"volvelle/api"
	"volvelle/exact"
	"volvelle/part"
	"volvelle/span"
)

// P12.2, and how functions lie to each other.

// lies compares what is known with what is enclosed.
func lies(t *testing.T, p, tag int, z api.Four) {
	t.Helper()
	spans := enclosed(t, p, tag, z)
	for i, f := range exact.Known(tag, z) {
		if f.Is && !holds(spans[i], numberOf(f.Word)) {
			t.Errorf("%s with %d bits: %x isn't enclosed", showCall(tag, z), p, f.Word)
		}
	}
}

func TestKnownLiesInWhatIsEnclosed(t *testing.T) {
	t.Parallel()
	for _, tag := range tags() {
		for _, b := range stops(tag) {
			for _, side := range []uint64{0, sign} {
				for _, z := range []api.Four{{b, side, one, one}, {side, b, one, one}} {
					if part.Singular(tag, z) {
						continue
					}
					for _, p := range []int{16, 53, 400} {
						lies(t, p, tag, z)
					}
				}
			}
		}
	}
	s := &source{7}
	for range 3000 {
		tag := s.below(21)
		lies(t, 16+s.below(200), tag, s.point(tag))
	}
}

func TestKnownLiesInWhatIsEnclosedWithManyBits(t *testing.T) {
	t.Parallel()
	for _, tag := range tags() {
		for _, z := range corners() {
			if z[2] == one && !part.Singular(tag, z) && (isZero(z[0]) || isZero(z[1])) {
				lies(t, 3000, tag, z)
			}
		}
		lies(t, 6000, tag, api.Four{sign, word(0.75), one, one})
		lies(t, 6000, tag, api.Four{word(-0.75), 0, one, one})
	}
}

// A component that many bits don't tell from 0 is known: no span would ever
// decide it. (Of the products zeros are told by their numbers.)
func TestZerosAreKnown(t *testing.T) {
	t.Parallel()
	s := &source{8}
	for n := range 4000 {
		tag := n % 21
		z := s.point(tag)
		if takesTwo(tag) {
			continue
		}
		facts := exact.Known(tag, z)
		for i, a := range enclosed(t, 200, tag, z) {
			if span.Sign(a) == 0 && !facts[i].Is {
				t.Fatalf("%s: component %d isn't known", showCall(tag, z), i)
			}
		}
	}
}

// beside answers z with the least numbers of their signs for zeros.
func beside(z api.Four) api.Four {
	for i := range 2 {
		if isZero(z[i]) {
			z[i] |= leastSmall
		}
	}
	return z
}

// hasSide tells whether the sign of a zero is that of the numbers beside it:
// neither where the component is 0 everywhere, nor of Log, which rises through 0.
func hasSide(tag, component int) bool {
	switch tag {
	case api.Abs, api.Arg:
		return component == 0
	case api.Log:
		return component == 1
	}
	return !takesTwo(tag)
}

// A zero lies on the side on which the component lies next to it, where x and y
// are the least numbers of their signs.
func TestSidesOfZeros(t *testing.T) {
	t.Parallel()
	s := &source{10}
	count := 0
	check := func(tag int, z api.Four) {
		spans := enclosed(t, 64, tag, beside(z))
		for i, f := range exact.Known(tag, z) {
			if !f.Is || !isZero(f.Word) || !hasSide(tag, i) {
				continue
			}
			count++
			if want := span.Sign(spans[i]); want == 0 || (want < 0) != (f.Word == sign) {
				t.Fatalf("%s: component %d is %x, beside it %d", showCall(tag, z), i, f.Word, want)
			}
		}
	}
	for _, tag := range tags() {
		for _, z := range corners() {
			if !part.Singular(tag, z) {
				check(tag, z)
			}
		}
		for range 100 {
			check(tag, s.point(tag))
		}
	}
	if count < 1000 {
		t.Errorf("%d zeros", count)
	}
}

// Of z with the other sign of y each function has its conjugate; distances stay,
// and the 0 beside them and beside angles.
func TestConjugates(t *testing.T) {
	s := &source{11}
	for n := range 6000 {
		tag := n % 21
		z := s.point(tag)
		want := exact.Known(tag, z)
		switch tag {
		case api.Abs:
		case api.Arg:
			want[0] = other(want[0])
		default:
			want[1] = other(want[1])
		}
		knows(t, tag, conjugate(z), want[0], want[1])
	}
}

// Turned about the middle odd functions are turned, too, even ones aren't.
func TestOddAndEven(t *testing.T) {
	s := &source{12}
	for n := range 6000 {
		tag := n % 21
		z := s.point(tag)
		want := exact.Known(tag, z)
		switch {
		case isOdd(tag):
			knows(t, tag, turned(z), other(want[0]), other(want[1]))
		case isEven(tag):
			knows(t, tag, turned(z), want[0], want[1])
		}
	}
}

// Sinh, Tanh, Asinh and Atanh of z are the sine's like of i z, over i; Cosh is
// the cosine of i z.
func TestQuarterTurned(t *testing.T) {
	s := &source{13}
	for n := range 3000 {
		for _, pair := range [][2]int{{api.Sinh, api.Sin}, {api.Tanh, api.Tan}, {api.Asinh, api.Asin}, {api.Atanh, api.Atan}} {
			z := s.point(pair[0])
			got := exact.Known(pair[1], api.Four{z[1] ^ sign, z[0]})
			knows(t, pair[0], z, got[1], other(got[0]))
		}
		z := s.point(api.Cosh)
		got := exact.Known(api.Cos, api.Four{z[1] ^ sign, z[0]})
		knows(t, api.Cosh, z, got[0], got[1])
		if n%10 == 0 {
			acoshOfAcos(t, s.point(api.Acosh))
		}
	}
}

// acoshOfAcos compares Acosh with Acos: it is Acos times i, or over i, so that
// the first component is above 0.
func acoshOfAcos(t *testing.T, z api.Four) {
	t.Helper()
	got := exact.Known(api.Acos, z)
	first, second := got[1], got[0]
	if first.Is {
		first.Word &^= sign
	}
	if second.Is {
		second.Word |= z[1] & sign
	}
	knows(t, api.Acosh, z, first, second)
}
