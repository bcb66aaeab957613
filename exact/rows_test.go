package exact_test

import (
	"strings"
	"testing"

	"volvelle/api"
	"volvelle/exact"
)

// P12.1: each row of the table, along both axes and off them.

// stops answers the words along an axis at which rows are told: down from 0 the
// greatest in reach, 4, those about 1, the least one and 0; then upwards the
// same. The sines and the cosines of the greatest one, 32768, are above 0, those
// of 4 below.
func stops(tag int) []uint64 {
	end := greatest
	if isBounded(tag) {
		end = bound
	}
	l := []uint64{end, four, one + 1, one, one - 1, leastSmall, 0}
	var all []uint64
	for i := range l {
		all = append(all, l[i]|sign)
	}
	for i := range l {
		all = append(all, l[len(l)-1-i])
	}
	return all
}

const (
	none   = "....... ......."
	plus   = "+++++++ +++++++"
	minus  = "------- -------"
	middle = "......- +......"
)

// row: of each component what is told of the stops: along the axis of x with y a
// zero of sign 0 and of sign 1, along that of y with x a zero of sign 0 and of
// sign 1. A zero of sign 0 or 1 is + or -, 1 is 1, what isn't known is a dot; x,
// y and Y (with the other sign) are words that were handed in.
type row struct {
	tag           int
	first, second [4]string
}

// rowsOfPlane answers those of distances, angles, words themselves, products,
// roots, and logarithms.
func rowsOfPlane() []row {
	zeros, words := "......+ +......", "xxxxxxx xxxxxxx"
	return []row{
		{api.Abs, [4]string{zeros, zeros, zeros, zeros}, [4]string{plus, plus, plus, plus}},
		{api.Arg,
			[4]string{"....... +++++++", "....... -------", middle, none},
			[4]string{plus, plus, plus, plus}},
		{api.Conj,
			[4]string{words, words, words, words},
			[4]string{"YYYYYYY YYYYYYY", "YYYYYYY YYYYYYY", "YYYYYYY YYYYYYY", "YYYYYYY YYYYYYY"}},
		{api.Proj,
			[4]string{words, words, words, words},
			[4]string{"yyyyyyy yyyyyyy", "yyyyyyy yyyyyyy", "yyyyyyy yyyyyyy", "yyyyyyy yyyyyyy"}},
		{api.Mul, [4]string{none, none, none, none}, [4]string{none, none, none, none}},
		{api.Div, [4]string{none, none, none, none}, [4]string{none, none, none, none}},
		{api.Sqrt,
			[4]string{"+++++++ +......", "+++++++ +......", zeros, zeros},
			[4]string{"......+ +++++++", "......- -------", middle, middle}},
		{api.Log,
			[4]string{"...+... ...+...", "...+... ...+...", "...+... ...+...", "...+... ...+..."},
			[4]string{"....... .++++++", "....... .------", none, none}},
	}
}

// rowsInReach answers those of functions that are bounded.
func rowsInReach() []row {
	ones := "......1 1......"
	return []row{
		{api.Exp, [4]string{ones, ones, ones, ones}, [4]string{plus, minus, middle, middle}},
		{api.Sin,
			[4]string{middle, middle, plus, minus},
			[4]string{"+-+++++ +++++-+", "-+----- -----+-", middle, middle}},
		{api.Cos,
			[4]string{ones, ones, ones, ones},
			[4]string{"+-+++++ -----+-", "-+----- +++++-+", "+++++++ -------", "------- +++++++"}},
		{api.Tan, [4]string{middle, middle, plus, minus}, [4]string{plus, minus, middle, middle}},
		{api.Sinh,
			[4]string{middle, middle, "+-+++++ +++++-+", "-+----- -----+-"},
			[4]string{plus, minus, middle, middle}},
		{api.Cosh,
			[4]string{ones, ones, ones, ones},
			[4]string{"------- +++++++", "+++++++ -------", "-+----- +++++-+", "+-+++++ -----+-"}},
		{api.Tanh, [4]string{middle, middle, plus, minus}, [4]string{plus, minus, middle, middle}},
	}
}

// rowsOfInverses answers those of the inverses of sines and their like.
func rowsOfInverses() []row {
	plusToOne, minusToOne := "...++++ ++++...", "...---- ----..."
	plusFromOne, minusFromOne := "....... ...++++", "....... ...----"
	plusBelowOne, minusBelowOne := "....+++ +++....", "....--- ---...."
	return []row{
		{api.Asin, [4]string{middle, middle, plus, minus}, [4]string{plusToOne, minusToOne, middle, middle}},
		{api.Acos,
			[4]string{plusFromOne, plusFromOne, none, none},
			[4]string{minusToOne, plusToOne, "......+ -......", "......+ -......"}},
		{api.Atan, [4]string{middle, middle, plusBelowOne, minusBelowOne}, [4]string{plus, minus, middle, middle}},
		{api.Asinh, [4]string{middle, middle, plusToOne, minusToOne}, [4]string{plus, minus, middle, middle}},
		{api.Acosh,
			[4]string{plusToOne, plusToOne, "......+ +......", "......+ +......"},
			[4]string{plusFromOne, minusFromOne, none, none}},
		{api.Atanh, [4]string{middle, middle, plus, minus}, [4]string{plusBelowOne, minusBelowOne, middle, middle}},
	}
}

// fact answers what a sign of a row tells.
func fact(told byte, z api.Four) api.Fact {
	switch told {
	case '+':
		return is(0)
	case '-':
		return is(sign)
	case '1':
		return is(one)
	case 'x':
		return is(z[0])
	case 'y':
		return is(z[1])
	case 'Y':
		return is(z[1] ^ sign)
	}
	return api.Fact{}
}

func TestRows(t *testing.T) {
	rows := append(append(rowsOfPlane(), rowsInReach()...), rowsOfInverses()...)
	if len(rows) != 21 {
		t.Fatalf("%d rows", len(rows))
	}
	for _, r := range rows {
		for axis := range 4 {
			first, second := strings.ReplaceAll(r.first[axis], " ", ""), strings.ReplaceAll(r.second[axis], " ", "")
			for i, b := range stops(r.tag) {
				z := api.Four{b, uint64(axis) << 63, one, four}
				if axis >= 2 {
					z[0], z[1] = z[1], b
				}
				knows(t, r.tag, z, fact(first[i], z), fact(second[i], z))
			}
		}
	}
}

// offAxes compares what is told where neither x nor y is a zero: of a few
// functions the second component, or both words themselves; of others nothing.
func offAxes(t *testing.T, tag int, z api.Four) {
	t.Helper()
	switch tag {
	case api.Abs, api.Arg:
		knows(t, tag, z, api.Fact{}, is(0))
	case api.Conj:
		knows(t, tag, z, is(z[0]), is(z[1]^sign))
	case api.Proj:
		knows(t, tag, z, is(z[0]), is(z[1]))
	default:
		knows(t, tag, z, api.Fact{}, api.Fact{})
	}
}

func TestOffAxes(t *testing.T) {
	s := &source{1}
	for _, tag := range tags() {
		var l []uint64
		for _, b := range stops(tag) {
			if !isZero(b) {
				l = append(l, b)
			}
		}
		for _, x := range l {
			for _, y := range l {
				offAxes(t, tag, api.Four{x, y, one, one})
			}
		}
		for range 2000 {
			if z := s.point(tag); !isZero(z[0]) && !isZero(z[1]) {
				offAxes(t, tag, z)
			}
		}
	}
}

// Of the products and the quotients nothing is known, whatever the words.
func TestProductsAreNotKnown(t *testing.T) {
	l := []uint64{0, sign, one, one | sign, leastSmall, greatest}
	for _, tag := range []int{api.Mul, api.Div} {
		for _, x := range l {
			for _, y := range l {
				for _, u := range l {
					for _, v := range l {
						knows(t, tag, api.Four{x, y, u, v}, api.Fact{}, api.Fact{})
					}
				}
			}
		}
	}
}

// The first component of Log is known at four points and their zeros' sides
// alone: of points as near the circle as words lie it isn't.
func TestNextToTheCircle(t *testing.T) {
	for _, k := range []struct{ x, y float64 }{
		{0.6, 0.8}, {0.8, 0.6}, {0.28, 0.96}, {0.7071067811865476, 0.7071067811865475}, {0.7071067811865476, 0.7071067811865476},
		{0.5, 0.8660254037844386}, {0.5, 0.8660254037844387}, {0x1p-26, 0x1.fffffffffffffp-1}, {0x1p-27, 1}, {0x1p-600, 1}, {0x1p-1074, 1},
		{0x1p-1074, 0x1.fffffffffffffp-1}, {0x1p-27, 0x1.fffffffffffffp-1}, {1, 1}, {2, 1}, {1.25, 0.75},
	} {
		for signs := range 4 {
			x, y := word(k.x)|uint64(signs&1)<<63, word(k.y)|uint64(signs>>1)<<63
			for _, z := range []api.Four{{x, y}, {y, x}} {
				knows(t, api.Log, z, api.Fact{}, api.Fact{})
			}
		}
	}
	for signs := range 4 {
		x, y := one|uint64(signs&1)<<63, uint64(signs>>1)<<63
		for _, z := range []api.Four{{x, y}, {y, x}} {
			if got := exact.Known(api.Log, z)[0]; got != is(0) {
				t.Errorf("%s: %v", showCall(api.Log, z), got)
			}
		}
	}
}

// The chapter's example.
func TestExample(t *testing.T) {
	knows(t, api.Sin, api.Four{1 << 63, 0, 0, 0}, api.Fact{Is: true, Word: 0x8000000000000000}, api.Fact{Is: true})
}
