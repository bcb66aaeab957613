package special_test

import (
	"strings"
	"testing"

	"volvelle/api"
)

// P13.1: what is told of all sorts of x and y, by pictures.

// sorts answers words of each sort: an infinity below 0, numbers below 0 that
// aren't -1, -1, the zeros, 1, other numbers above 0, an infinity above 0, and no
// numbers of sign 0 and of sign 1.
func sorts() [10][]uint64 {
	numbers := []uint64{greatest, bound + 1, three, one + 1, one - 1, leastNormal, greatestSmall, leastSmall}
	var below []uint64
	for _, b := range numbers {
		below = append(below, b|sign)
	}
	none := noNumbers()
	return [10][]uint64{
		{infinity | sign}, below, {one | sign}, {sign}, {0}, {one}, numbers, {infinity}, none[:len(none)/2], none[len(none)/2:],
	}
}

// picture: a row for each sort of y, from an infinity below 0 on, and in each row
// three signs for each sort of x: of the first word, of the second, and of the
// flags. Where it isn't special there are dots.
//
// I is an infinity, Z a zero, P, H, Q and T are pi, a half and a quarter of it and
// three quarters, of sign 1 where the letter is small; N is NaN; x and y are the
// words that were handed in, o is y with the other sign. Flags: v is Invalid, e
// Inexact, d DivZero, b DivZero and Inexact.
type picture [10]string

// wordOf answers the word of a sign of a picture.
func wordOf(told byte, z api.Four) uint64 {
	switch told {
	case 'x':
		return z[0]
	case 'y':
		return z[1]
	case 'o':
		return z[1] ^ sign
	case 'N':
		return 0x7FF8000000000000
	}
	var b uint64
	if told >= 'a' {
		b = sign
	}
	switch told &^ 0x20 {
	case 'I':
		return b | 0x7FF0000000000000
	case 'Z':
		return b
	case 'P':
		return b | 0x400921FB54442D18
	case 'H':
		return b | 0x3FF921FB54442D18
	case 'Q':
		return b | 0x3FE921FB54442D18
	case 'T':
		return b | 0x4002D97C7F3321D2
	}
	panic("no sign of a word")
}

// flagsOf answers those of a sign of a picture.
func flagsOf(told byte) int {
	switch told {
	case '.':
		return 0
	case 'e':
		return 1
	case 'v':
		return 8
	case 'd':
		return 16
	case 'b':
		return 17
	}
	panic("no sign of flags")
}

// shows compares what is told of all sorts of x and y, and of u and v as they are.
func (p picture) shows(t *testing.T, tag int, u, v uint64) {
	t.Helper()
	for row, ys := range sorts() {
		cells := strings.Fields(p[row])
		if len(cells) != 10 {
			t.Fatalf("function %d: %d cells in row %d", tag, len(cells), row)
		}
		for column, xs := range sorts() {
			for _, x := range xs {
				for _, y := range ys {
					z := api.Four{x, y, u, v}
					cell := cells[column]
					if cell == "..." {
						tellsNothing(t, tag, z)
						continue
					}
					tells(t, tag, z, wordOf(cell[0], z), wordOf(cell[1], z), flagsOf(cell[2]))
				}
			}
		}
	}
}

// invalid is the picture of a function of which nothing but the last line applies.
func invalid() picture {
	return picture{
		"NNv NNv NNv NNv NNv NNv NNv NNv NN. NN.",
		"NNv ... ... ... ... ... ... NNv NN. NN.",
		"NNv ... ... ... ... ... ... NNv NN. NN.",
		"NNv ... ... ... ... ... ... NNv NN. NN.",
		"NNv ... ... ... ... ... ... NNv NN. NN.",
		"NNv ... ... ... ... ... ... NNv NN. NN.",
		"NNv ... ... ... ... ... ... NNv NN. NN.",
		"NNv NNv NNv NNv NNv NNv NNv NNv NN. NN.",
		"NN. NN. NN. NN. NN. NN. NN. NN. NN. NN.",
		"NN. NN. NN. NN. NN. NN. NN. NN. NN. NN.",
	}
}

// asItIs answers the pictures of Conj and of Proj.
func asItIs() (conj, proj picture) {
	conj = picture{
		"xo. xo. xo. xo. xo. xo. xo. xo. No. No.",
		"xo. ... ... ... ... ... ... xo. No. No.",
		"xo. ... ... ... ... ... ... xo. No. No.",
		"xo. ... ... ... ... ... ... xo. No. No.",
		"xo. ... ... ... ... ... ... xo. No. No.",
		"xo. ... ... ... ... ... ... xo. No. No.",
		"xo. ... ... ... ... ... ... xo. No. No.",
		"xo. xo. xo. xo. xo. xo. xo. xo. No. No.",
		"xN. xN. xN. xN. xN. xN. xN. xN. NN. NN.",
		"xN. xN. xN. xN. xN. xN. xN. xN. NN. NN.",
	}
	proj = picture{
		"Iz. Iz. Iz. Iz. Iz. Iz. Iz. Iz. Iz. Iz.",
		"Iz. ... ... ... ... ... ... Iz. Ny. Ny.",
		"Iz. ... ... ... ... ... ... Iz. Ny. Ny.",
		"Iz. ... ... ... ... ... ... Iz. Ny. Ny.",
		"IZ. ... ... ... ... ... ... IZ. Ny. Ny.",
		"IZ. ... ... ... ... ... ... IZ. Ny. Ny.",
		"IZ. ... ... ... ... ... ... IZ. Ny. Ny.",
		"IZ. IZ. IZ. IZ. IZ. IZ. IZ. IZ. IZ. IZ.",
		"IZ. xN. xN. xN. xN. xN. xN. IZ. NN. NN.",
		"Iz. xN. xN. xN. xN. xN. xN. Iz. NN. NN.",
	}
	return conj, proj
}

// polar answers the pictures of Abs and of Arg.
func polar() (abs, arg picture) {
	abs = picture{
		"IZ. IZ. IZ. IZ. IZ. IZ. IZ. IZ. IZ. IZ.",
		"IZ. ... ... ... ... ... ... IZ. NN. NN.",
		"IZ. ... ... ... ... ... ... IZ. NN. NN.",
		"IZ. ... ... ... ... ... ... IZ. NN. NN.",
		"IZ. ... ... ... ... ... ... IZ. NN. NN.",
		"IZ. ... ... ... ... ... ... IZ. NN. NN.",
		"IZ. ... ... ... ... ... ... IZ. NN. NN.",
		"IZ. IZ. IZ. IZ. IZ. IZ. IZ. IZ. IZ. IZ.",
		"IZ. NN. NN. NN. NN. NN. NN. IZ. NN. NN.",
		"IZ. NN. NN. NN. NN. NN. NN. IZ. NN. NN.",
	}
	arg = picture{
		"tZe hZe hZe hZe hZe hZe hZe qZe NN. NN.",
		"pZe ... ... ... ... ... ... zZ. NN. NN.",
		"pZe ... ... ... ... ... ... zZ. NN. NN.",
		"pZe ... ... ... ... ... ... zZ. NN. NN.",
		"PZe ... ... ... ... ... ... ZZ. NN. NN.",
		"PZe ... ... ... ... ... ... ZZ. NN. NN.",
		"PZe ... ... ... ... ... ... ZZ. NN. NN.",
		"TZe HZe HZe HZe HZe HZe HZe QZe NN. NN.",
		"NN. NN. NN. NN. NN. NN. NN. NN. NN. NN.",
		"NN. NN. NN. NN. NN. NN. NN. NN. NN. NN.",
	}
	return abs, arg
}

// growing answers the pictures of Sqrt, of Exp and of Log.
func growing() (sqrt, exp, log picture) {
	sqrt = picture{
		"Ii. Ii. Ii. Ii. Ii. Ii. Ii. Ii. Ii. Ii.",
		"Zi. ... ... ... ... ... ... Iz. NN. NN.",
		"Zi. ... ... ... ... ... ... Iz. NN. NN.",
		"Zi. ... ... ... ... ... ... Iz. NN. NN.",
		"ZI. ... ... ... ... ... ... IZ. NN. NN.",
		"ZI. ... ... ... ... ... ... IZ. NN. NN.",
		"ZI. ... ... ... ... ... ... IZ. NN. NN.",
		"II. II. II. II. II. II. II. II. II. II.",
		"NN. NN. NN. NN. NN. NN. NN. NN. NN. NN.",
		"NN. NN. NN. NN. NN. NN. NN. NN. NN. NN.",
	}
	exp = picture{
		"NNv NNv NNv NNv NNv NNv NNv NNv NN. NN.",
		"NNv ... ... ... ... ... ... NNv NN. NN.",
		"NNv ... ... ... ... ... ... NNv NN. NN.",
		"Zz. ... ... ... ... ... ... Iz. NN. NN.",
		"ZZ. ... ... ... ... ... ... IZ. NN. NN.",
		"NNv ... ... ... ... ... ... NNv NN. NN.",
		"NNv ... ... ... ... ... ... NNv NN. NN.",
		"NNv NNv NNv NNv NNv NNv NNv NNv NN. NN.",
		"NN. NN. NN. NN. NN. NN. NN. NN. NN. NN.",
		"NN. NN. NN. NN. NN. NN. NN. NN. NN. NN.",
	}
	log = picture{
		"Ite Ihe Ihe Ihe Ihe Ihe Ihe Iqe NN. NN.",
		"Ipe ... ... ... ... ... ... Iz. NN. NN.",
		"Ipe ... ... ... ... ... ... Iz. NN. NN.",
		"Ipe ... ... ipb izd ... ... Iz. NN. NN.",
		"IPe ... ... iPb iZd ... ... IZ. NN. NN.",
		"IPe ... ... ... ... ... ... IZ. NN. NN.",
		"IPe ... ... ... ... ... ... IZ. NN. NN.",
		"ITe IHe IHe IHe IHe IHe IHe IQe NN. NN.",
		"NN. NN. NN. NN. NN. NN. NN. NN. NN. NN.",
		"NN. NN. NN. NN. NN. NN. NN. NN. NN. NN.",
	}
	return sqrt, exp, log
}

// arctangents answers the pictures of Atan and of Atanh.
func arctangents() (atan, atanh picture) {
	atan = picture{
		"NNv NNv NNv NNv NNv NNv NNv NNv NN. NN.",
		"NNv ... ... ... ... ... ... NNv NN. NN.",
		"NNv ... ... zid Zid ... ... NNv NN. NN.",
		"NNv ... ... ... ... ... ... NNv NN. NN.",
		"NNv ... ... ... ... ... ... NNv NN. NN.",
		"NNv ... ... zId ZId ... ... NNv NN. NN.",
		"NNv ... ... ... ... ... ... NNv NN. NN.",
		"NNv NNv NNv NNv NNv NNv NNv NNv NN. NN.",
		"NN. NN. NN. NN. NN. NN. NN. NN. NN. NN.",
		"NN. NN. NN. NN. NN. NN. NN. NN. NN. NN.",
	}
	atanh = picture{
		"NNv NNv NNv NNv NNv NNv NNv NNv NN. NN.",
		"NNv ... ... ... ... ... ... NNv NN. NN.",
		"NNv ... ... ... ... ... ... NNv NN. NN.",
		"NNv ... izd ... ... Izd ... NNv NN. NN.",
		"NNv ... iZd ... ... IZd ... NNv NN. NN.",
		"NNv ... ... ... ... ... ... NNv NN. NN.",
		"NNv ... ... ... ... ... ... NNv NN. NN.",
		"NNv NNv NNv NNv NNv NNv NNv NNv NN. NN.",
		"NN. NN. NN. NN. NN. NN. NN. NN. NN. NN.",
		"NN. NN. NN. NN. NN. NN. NN. NN. NN. NN.",
	}
	return atan, atanh
}

// overZeros answers the pictures of Div by zeros, with u of sign 0 and of sign 1.
func overZeros() (above, below picture) {
	above = picture{
		"NNv NNv NNv NNv NNv NNv NNv NNv NN. NN.",
		"NNv iid iid Nid Nid Iid Iid NNv NN. NN.",
		"NNv iid iid Nid Nid Iid Iid NNv NN. NN.",
		"NNv iNd iNd NNv NNv INd INd NNv NN. NN.",
		"NNv iNd iNd NNv NNv INd INd NNv NN. NN.",
		"NNv iId iId NId NId IId IId NNv NN. NN.",
		"NNv iId iId NId NId IId IId NNv NN. NN.",
		"NNv NNv NNv NNv NNv NNv NNv NNv NN. NN.",
		"NN. NN. NN. NN. NN. NN. NN. NN. NN. NN.",
		"NN. NN. NN. NN. NN. NN. NN. NN. NN. NN.",
	}
	below = picture{
		"NNv NNv NNv NNv NNv NNv NNv NNv NN. NN.",
		"NNv IId IId NId NId iId iId NNv NN. NN.",
		"NNv IId IId NId NId iId iId NNv NN. NN.",
		"NNv INd INd NNv NNv iNd iNd NNv NN. NN.",
		"NNv INd INd NNv NNv iNd iNd NNv NN. NN.",
		"NNv Iid Iid Nid Nid iid iid NNv NN. NN.",
		"NNv Iid Iid Nid Nid iid iid NNv NN. NN.",
		"NNv NNv NNv NNv NNv NNv NNv NNv NN. NN.",
		"NN. NN. NN. NN. NN. NN. NN. NN. NN. NN.",
		"NN. NN. NN. NN. NN. NN. NN. NN. NN. NN.",
	}
	return above, below
}

// pictures answers those of all functions by their tags, Mul and Div where u and
// v are numbers, and not both zeros.
func pictures() [21]picture {
	var l [21]picture
	for tag := range l {
		l[tag] = invalid()
	}
	l[api.Conj], l[api.Proj] = asItIs()
	l[api.Abs], l[api.Arg] = polar()
	l[api.Sqrt], l[api.Exp], l[api.Log] = growing()
	l[api.Atan], l[api.Atanh] = arctangents()
	return l
}

func TestPictures(t *testing.T) {
	for tag, p := range pictures() {
		p.shows(t, tag, one, three)
		p.shows(t, tag, sign, leastSmall)
		p.shows(t, tag, greatest|sign, 0)
		if takesTwo(tag) {
			continue
		}
		p.shows(t, tag, 0, 0)
		p.shows(t, tag, sign, sign)
		p.shows(t, tag, infinity, api.NaN)
		p.shows(t, tag, api.NaN|sign, infinity|sign)
	}
}

// The sign of v counts nothing where something is divided by 0.
func TestPicturesOverZeros(t *testing.T) {
	above, below := overZeros()
	for _, v := range []uint64{0, sign} {
		above.shows(t, api.Div, 0, v)
		below.shows(t, api.Div, sign, v)
		invalid().shows(t, api.Mul, 0, v)
		invalid().shows(t, api.Mul, sign, v)
	}
}
