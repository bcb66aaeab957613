package part

import "volvelle/api"

// What is worked ahead of being cut: cutting would hide how much is lost.

// Worked answers it for a calc of so many bits, and whether it went bad.
func Worked(p, tag int, z api.Four) ([2]api.Span, bool) {
	return WorkedWith(p+spareBits, tag, z)
}

// WorkedWith answers it worked with just so many bits.
func WorkedWith(bits, tag int, z api.Four) ([2]api.Span, bool) {
	d := &desk{}
	d.P = bits
	p, _ := placeOf(tag, z)
	first, second := d.components(tag, p)
	return [2]api.Span{first, second}, d.Bad
}
