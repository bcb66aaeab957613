package cmath_test

import (
	"math"
	"testing"

	"volvelle/api"
	"volvelle/cmath"
)

// P14.1: literal words and flags. None of them come of the project.

// cut: a function at x and y: the words of both components, rounded towards 0,
// and whether the next ones away from 0 are nearer.
type cut struct {
	tag   int
	x, y  float64
	words [2]uint64
	isFar [2]bool
}

// inMode answers the word of a component that lies between two words.
func inMode(word uint64, isFar bool, mode int) uint64 {
	isOutward := isFar
	switch mode {
	case api.Cut:
		isOutward = false
	case api.Up:
		isOutward = word < sign
	case api.Down:
		isOutward = word >= sign
	}
	if isOutward {
		return word + 1
	}
	return word
}

// checkCuts asks for literal words; the second component of Arg is known.
func checkCuts(t *testing.T, l []cut) {
	t.Helper()
	for _, k := range l {
		for _, mode := range modes {
			want := [2]api.Part{is(inMode(k.words[0], k.isFar[0], mode), 1), is(inMode(k.words[1], k.isFar[1], mode), 1)}
			if k.tag == api.Arg {
				want[1] = is(0, 0)
			}
			for _, budget := range []int{128, 300, 512} {
				answers(t, k.tag, words(k.x, k.y), mode, budget, want)
			}
		}
	}
}

func TestLiteralWords(t *testing.T) {
	checkCuts(t, []cut{
		{api.Arg, 1, 2, [2]uint64{0x3FF1B6E192EBBE44, 0x0000000000000000}, [2]bool{false, false}},
		{api.Arg, -0.75, 3.5, [2]uint64{0x3FFC829EBB6DB38D, 0x0000000000000000}, [2]bool{true, false}},
		{api.Arg, 2.5, -0.125, [2]uint64{0xBFA9942597929F26, 0x0000000000000000}, [2]bool{false, false}},
		{api.Exp, 1, 2, [2]uint64{0xBFF21969C4953CD1, 0x4003C618A2274AFD}, [2]bool{false, false}},
		{api.Exp, -0.75, 3.5, [2]uint64{0xBFDC4F79CD45C8D9, 0xBFC53599C87DDAD0}, [2]bool{false, true}},
		{api.Exp, 2.5, -0.125, [2]uint64{0x40282CC5359FC506, 0xBFF84D34CDFA67F3}, [2]bool{true, false}},
		{api.Log, 1, 2, [2]uint64{0x3FE9C041F7ED8D33, 0x3FF1B6E192EBBE44}, [2]bool{false, false}},
		{api.Log, -0.75, 3.5, [2]uint64{0x3FF46743428B38F8, 0x3FFC829EBB6DB38D}, [2]bool{false, true}},
		{api.Log, 2.5, -0.125, [2]uint64{0x3FED5C7B1C0D98A1, 0xBFA9942597929F26}, [2]bool{true, false}},
		{api.Sin, 1, 2, [2]uint64{0x40095383AF6524C0, 0x3FFF5A869F21D03C}, [2]bool{true, false}},
		{api.Sin, -0.75, 3.5, [2]uint64{0xC02697E665706A5B, 0x40283546DC4EB515}, [2]bool{false, false}},
		{api.Sin, 2.5, -0.125, [2]uint64{0x3FE34D0932140893, 0x3FB9B412AADDE879}, [2]bool{false, true}},
		{api.Cos, 1, 2, [2]uint64{0x4000430447A7CF57, 0xC0086A4964B0BB19}, [2]bool{true, true}},
		{api.Cos, -0.75, 3.5, [2]uint64{0x40284096E87AC38E, 0x40268D5C72D7B19D}, [2]bool{true, true}},
		{api.Cos, 2.5, -0.125, [2]uint64{0xBFE9D64EF8FC1543, 0x3FB333761072E065}, [2]bool{true, true}},
		{api.Tan, 1, 2, [2]uint64{0x3FA14FEA2C65A0C3, 0x3FF03C983B18A141}, [2]bool{true, false}},
		{api.Tan, -0.75, 3.5, [2]uint64{0xBF5DCD44932B8FAC, 0x3FEFFEEDFFA40CC6}, [2]bool{true, true}},
		{api.Tan, 2.5, -0.125, [2]uint64{0xBFE7556D97B5D945, 0xBFC896648E06689A}, [2]bool{true, true}},
		{api.Sinh, 1, 2, [2]uint64{0xBFDF4CB29F9F222B, 0x3FF6732D2BDCF47F}, [2]bool{true, true}},
		{api.Sinh, -0.75, 3.5, [2]uint64{0x3FE8A45D436C8178, 0xBFDD10D88168BD9E}, [2]bool{true, true}},
		{api.Sinh, 2.5, -0.125, [2]uint64{0x401803121C34A733, 0xBFE8771FDA633D39}, [2]bool{true, false}},
		{api.Cosh, 1, 2, [2]uint64{0xBFE48C7A395AE88D, 0x3FF119041871A17B}, [2]bool{false, false}},
		{api.Cosh, -0.75, 3.5, [2]uint64{0xBFF3660D1507B2F2, 0x3FD2760B9D29D036}, [2]bool{true, false}},
		{api.Cosh, 2.5, -0.125, [2]uint64{0x401856784F0AE2D9, 0xBFE82349C19192AD}, [2]bool{false, true}},
		{api.Tanh, 1, 2, [2]uint64{0x3FF2AAF3A33E83DD, 0xBFCF29A36A04911B}, [2]bool{true, true}},
		{api.Tanh, -0.75, 3.5, [2]uint64{0xBFE5EF5BFC26BFAD, 0x3FCB12730428410F}, [2]bool{true, true}},
		{api.Tanh, 2.5, -0.125, [2]uint64{0x3FEF95AFBE79A1FE, 0xBF6AF57519B26BA2}, [2]bool{true, true}},
	})
}

func TestLiteralWordsOfInverses(t *testing.T) {
	checkCuts(t, []cut{
		{api.Asin, 1, 2, [2]uint64{0x3FDB55416C582A86, 0x3FF87506C7CC99BF}, [2]bool{true, true}},
		{api.Asin, -0.75, 3.5, [2]uint64{0xBFCA0C5F6F9CBE2B, 0x3FFFC5C671EEBA53}, [2]bool{true, true}},
		{api.Asin, 2.5, -0.125, [2]uint64{0x3FF842CF92053C5F, 0xBFF9183EDD75B615}, [2]bool{true, false}},
		{api.Acos, 1, 2, [2]uint64{0x3FF24CAAF92E2276, 0xBFF87506C7CC99BF}, [2]bool{true, true}},
		{api.Acos, -0.75, 3.5, [2]uint64{0x3FFC63874237C4DD, 0xBFFFC5C671EEBA53}, [2]bool{true, true}},
		{api.Acos, 2.5, -0.125, [2]uint64{0x3FABE57847DE170C, 0x3FF9183EDD75B615}, [2]bool{false, false}},
		{api.Atan, 1, 2, [2]uint64{0x3FF56C6E7397F5AE, 0x3FD9C041F7ED8D33}, [2]bool{false, false}},
		{api.Atan, -0.75, 3.5, [2]uint64{0xBFF81F4D7FC420E5, 0x3FD1DE6405CA4176}, [2]bool{false, false}},
		{api.Atan, 2.5, -0.125, [2]uint64{0x3FF30E7785B12525, 0xBF919FC912C3BB99}, [2]bool{true, false}},
		{api.Asinh, 1, 2, [2]uint64{0x3FF78276F9861C4B, 0x3FF103D9AFA861F3}, [2]bool{false, true}},
		{api.Asinh, -0.75, 3.5, [2]uint64{0xBFFF33E7E7E06BA9, 0x3FF59EBE7D5D85B2}, [2]bool{true, true}},
		{api.Asinh, 2.5, -0.125, [2]uint64{0x3FFA5F276BB8923A, 0xBFA7C16671309E17}, [2]bool{true, true}},
		{api.Acosh, 1, 2, [2]uint64{0x3FF87506C7CC99BF, 0x3FF24CAAF92E2276}, [2]bool{true, true}},
		{api.Acosh, -0.75, 3.5, [2]uint64{0x3FFFC5C671EEBA53, 0x3FFC63874237C4DD}, [2]bool{true, true}},
		{api.Acosh, 2.5, -0.125, [2]uint64{0x3FF9183EDD75B615, 0xBFABE57847DE170C}, [2]bool{false, false}},
		{api.Atanh, 1, 2, [2]uint64{0x3FC62E42FEFA39EF, 0x3FF2D97C7F3321D2}, [2]bool{false, false}},
		{api.Atanh, -0.75, 3.5, [2]uint64{0xBFABE935920D96F0, 0x3FF4DA64CDAE4072}, [2]bool{false, false}},
		{api.Atanh, 2.5, -0.125, [2]uint64{0x3FDB05F068CC2534, 0xBFF8C0D1FED08704}, [2]bool{false, true}},
	})
}

// alone: a function at x and y of which one component isn't known: the words on
// both sides of it, and in the mode 0.
type alone struct {
	tag         int
	x, y        float64
	at          int
	low, up, by uint64
	other       uint64
}

func TestLiteralWordsOnAxes(t *testing.T) {
	zero := math.Copysign(0, -1)
	for _, k := range []alone{
		{api.Exp, 1, 0, 0, 0x4005BF0A8B145769, 0x4005BF0A8B14576A, 0x4005BF0A8B145769, 0},
		{api.Exp, 1, zero, 0, 0x4005BF0A8B145769, 0x4005BF0A8B14576A, 0x4005BF0A8B145769, sign},
		{api.Log, 2, zero, 0, 0x3FE62E42FEFA39EF, 0x3FE62E42FEFA39F0, 0x3FE62E42FEFA39EF, sign},
		{api.Log, -1, 0, 1, 0x400921FB54442D18, 0x400921FB54442D19, 0x400921FB54442D18, 0},
		{api.Log, -1, zero, 1, 0xC00921FB54442D19, 0xC00921FB54442D18, 0xC00921FB54442D18, 0},
		{api.Log, 0, -1, 1, 0xBFF921FB54442D19, 0xBFF921FB54442D18, 0xBFF921FB54442D18, 0},
		{api.Arg, -5, 0, 0, 0x400921FB54442D18, 0x400921FB54442D19, 0x400921FB54442D18, 0},
		{api.Arg, zero, zero, 0, 0xC00921FB54442D19, 0xC00921FB54442D18, 0xC00921FB54442D18, 0},
		{api.Arg, zero, 3, 0, 0x3FF921FB54442D18, 0x3FF921FB54442D19, 0x3FF921FB54442D18, 0},
		{api.Sin, 1, zero, 0, 0x3FEAED548F090CEE, 0x3FEAED548F090CEF, 0x3FEAED548F090CEE, sign},
		{api.Cos, 1, 0, 0, 0x3FE14A280FB5068B, 0x3FE14A280FB5068C, 0x3FE14A280FB5068C, sign},
		{api.Sqrt, 2, zero, 0, 0x3FF6A09E667F3BCC, 0x3FF6A09E667F3BCD, 0x3FF6A09E667F3BCD, sign},
		{api.Sqrt, -2, zero, 1, 0xBFF6A09E667F3BCD, 0xBFF6A09E667F3BCC, 0xBFF6A09E667F3BCD, 0},
		{api.Abs, 1, -1, 0, 0x3FF6A09E667F3BCC, 0x3FF6A09E667F3BCD, 0x3FF6A09E667F3BCD, 0},
		{api.Acosh, 2, zero, 0, 0x3FF5124271980434, 0x3FF5124271980435, 0x3FF5124271980435, sign},
		{api.Acosh, -1, 0, 1, 0x400921FB54442D18, 0x400921FB54442D19, 0x400921FB54442D18, 0},
		{api.Acos, 0, 0, 0, 0x3FF921FB54442D18, 0x3FF921FB54442D19, 0x3FF921FB54442D18, sign},
		{api.Acos, -1, zero, 0, 0x400921FB54442D18, 0x400921FB54442D19, 0x400921FB54442D18, 0},
		{api.Asin, -1, 0, 0, 0xBFF921FB54442D19, 0xBFF921FB54442D18, 0xBFF921FB54442D18, 0},
		{api.Atan, 0, 0.5, 1, 0x3FE193EA7AAD030A, 0x3FE193EA7AAD030B, 0x3FE193EA7AAD030B, 0},
		{api.Atanh, -0.5, 0, 0, 0xBFE193EA7AAD030B, 0xBFE193EA7AAD030A, 0xBFE193EA7AAD030B, 0},
		// Next to 0 and to 1, on the one side or the other.
		{api.Sin, 0x1p-1074, 0, 0, 0, 1, 1, 0},
		{api.Asin, 0x1p-1074, 0, 0, 1, 2, 1, 0},
		{api.Atan, -0x1p-1074, 0, 0, 0x8000000000000001, sign, 0x8000000000000001, 0},
		{api.Cos, 0x1p-1074, 0, 0, 0x3FEFFFFFFFFFFFFF, 0x3FF0000000000000, 0x3FF0000000000000, sign},
		{api.Cosh, 0, 0x1p-500, 0, 0x3FEFFFFFFFFFFFFF, 0x3FF0000000000000, 0x3FF0000000000000, 0},
		{api.Exp, -0x1p-1074, 0, 0, 0x3FEFFFFFFFFFFFFF, 0x3FF0000000000000, 0x3FF0000000000000, 0},
		{api.Exp, 0x1p-1074, 0, 0, 0x3FF0000000000000, 0x3FF0000000000001, 0x3FF0000000000000, 0},
	} {
		flags := inexact
		if k.by&^sign < leastNormal {
			flags = underflow
		}
		for mode, word := range [4]uint64{k.by, inward(k.low, k.up), k.up, k.low} {
			want := [2]api.Part{is(k.other, 0), is(k.other, 0)}
			want[k.at] = is(word, flags)
			answers(t, k.tag, words(k.x, k.y), mode, 4096, want)
		}
	}
}

// inward answers which of two words next to each other is nearer to 0.
func inward(low, up uint64) uint64 {
	if low&sign != 0 {
		return up
	}
	return low
}

// The examples of the document.
func TestExamplesOfTheWhole(t *testing.T) {
	for _, mode := range modes {
		answers(t, api.Sqrt, words(3, 4), mode, 128, [2]api.Part{is(word(2), 0), is(word(1), 0)})
		e, far := uint64(0x4005BF0A8B145769), infinity
		if mode == api.Up {
			e++
		}
		answers(t, api.Exp, words(1, 0), mode, 512, [2]api.Part{is(e, 1), is(0, 0)})
		if mode == api.Cut || mode == api.Down {
			far = greatest
		}
		answers(t, api.Exp, words(1000, 0), mode, 128, [2]api.Part{is(far, 3), is(0, 0)})
		answers(t, api.Atan, words(0, 1), mode, 128, [2]api.Part{is(0, 16), is(infinity, 16)})
		answers(t, api.Sin, words(math.Inf(-1), 1), mode, 128, [2]api.Part{is(api.NaN, 8), is(api.NaN, 8)})
		answers(t, api.Sin, words(40000, 0), mode, 128, [2]api.Part{{Status: api.Reach}, {Status: api.Reach}})
	}
	answers(t, api.Log, words(-1, math.Copysign(0, -1)), api.Even, 128, [2]api.Part{is(0, 0), is(0xC00921FB54442D18, 1)})
	answers(t, api.Mul, both(1, 1, 1, 1), api.Down, 128, [2]api.Part{is(sign, 0), is(word(2), 0)})
}

// Cos of 2^-300, rounded Down, isn't told from 1 with few bits; with bits enough
// it is the word below 1.
func TestCosNextToOne(t *testing.T) {
	z := words(0x1p-300, 0)
	for _, budget := range []int{128, 256} {
		got := cmath.Call(api.Cos, z, api.Down, budget)
		isAbout := got[0].Lo == 0x3FEFFFFFFFFFFFFF && (got[0].Hi == one || got[0].Hi == one+1)
		if got[0].Status != api.Undecided || !isAbout || got[0].Word != 0 || got[0].Flags != 0 || got[1] != is(sign, 0) {
			t.Errorf("%s: %s", showCall(api.Cos, z, api.Down, budget), show(got))
		}
	}
	for _, budget := range []int{700, 1024, 4096} {
		answers(t, api.Cos, z, api.Down, budget, [2]api.Part{is(0x3FEFFFFFFFFFFFFF, 1), is(sign, 0)})
		answers(t, api.Cos, z, api.Cut, budget, [2]api.Part{is(0x3FEFFFFFFFFFFFFF, 1), is(sign, 0)})
		answers(t, api.Cos, z, api.Up, budget, [2]api.Part{is(one, 1), is(sign, 0)})
	}
	answers(t, api.Cos, z, api.Even, 128, [2]api.Part{is(one, 1), is(sign, 0)})
	answers(t, api.Cos, z, api.Away, 128, [2]api.Part{is(one, 1), is(sign, 0)})
}

// Powers of e at the ends of the numbers: just below 2^1024, and above; about
// 2^-1022, 2^-1074 and half of that.
func TestLiteralPowers(t *testing.T) {
	for _, k := range []struct {
		x     float64
		words [5]uint64
		flags int
	}{
		{709.782712893384, [5]uint64{0x7FEFFFFFFFFFFF2A, 0x7FEFFFFFFFFFFF2A, 0x7FEFFFFFFFFFFF2B, 0x7FEFFFFFFFFFFF2A, 0x7FEFFFFFFFFFFF2A}, 1},
		{709.7827128933841, [5]uint64{infinity, greatest, infinity, greatest, infinity}, 3},
		{-746, [5]uint64{0, 0, 1, 0, 0}, 5},
		{-745, [5]uint64{1, 0, 1, 0, 1}, 5},
		{-32768, [5]uint64{0, 0, 1, 0, 0}, 5},
		{32768, [5]uint64{infinity, greatest, infinity, greatest, infinity}, 3},
	} {
		for mode, want := range k.words {
			answers(t, api.Exp, words(k.x, 0), mode, 128, [2]api.Part{is(want, k.flags), is(0, 0)})
		}
	}
}
