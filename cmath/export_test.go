package cmath

import "volvelle/api"

// Work answers both components worked with bits that are told, one behind the
// other: also such as are no budget's, with which nothing is enclosed.
func Work(tag int, z api.Four, mode int, bits ...int) [2]api.Part {
	return work(tag, z, mode, bits)
}
