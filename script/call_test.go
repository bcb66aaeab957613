package script_test

import (
	"math"
	"strings"
	"testing"

	"volvelle/api"
)

// Lines of call.

// Words missing, at each place, and words over.
func TestWordsOfCall(t *testing.T) {
	line := asked{6, words(3, 4), 0, 128}.line()
	answers(t, line, "4000000000000000/0 3ff0000000000000/0")
	l := strings.Split(line, " ")
	for at := range l {
		without := strings.Join(append(append([]string(nil), l[:at]...), l[at+1:]...), " ")
		isWrong(t, without)
	}
	for n := 1; n < len(l); n++ {
		isWrong(t, strings.Join(l[:n], " "))
		for _, over := range []string{"0", "128", "3ff0000000000000", "x", "#"} {
			isWrong(t, strings.Join(append(append(append([]string(nil), l[:n]...), over), l[n:]...), " "))
		}
	}
	for _, over := range []string{"0", "128", "3ff0000000000000", "x", "#", "-", "call"} {
		isWrong(t, line+" "+over)
	}
	isWrong(t, line+" "+line)
}

// Each of the seven words wrong alone, and two of them.
func TestEachWordOfCallWrong(t *testing.T) {
	line := asked{6, words(3, 4), 0, 128}.line()
	for at := 1; at < 8; at++ {
		for _, text := range []string{"x", "-1", "100001", "00", "400800000000000", "40080000000000000", "400A000000000000", "0x40080000000000"} {
			wrong := replaced(line, at, text)
			isWrong(t, wrong)
			isWrong(t, replaced(wrong, 1+at%7, text))
		}
	}
	// Numbers where HEX is asked for, and HEX where numbers are.
	for _, at := range []int{1, 6, 7} {
		isWrong(t, replaced(line, at, "0000000000000000"))
		isWrong(t, replaced(line, at, "0000000000000128"))
		isWrong(t, replaced(line, at, "1234567890123456"))
	}
	for at := 2; at < 6; at++ {
		isWrong(t, replaced(line, at, "0"))
		isWrong(t, replaced(line, at, "100000"))
	}
}

// Tags above 20, modes above 4, budgets below 128 and above 4096 are numbers all
// the same, but no call; whatever the words are.
func TestBad(t *testing.T) {
	for _, z := range []api.Four{words(3, 4), words(0, 0), words(40000, 0), words(math.Inf(1), 0), both(1, 2, 0, 0), {api.NaN, sign, api.NaN, infinity}} {
		for _, tag := range []int{21, 22, 99, 4096, 65536, 100000} {
			answers(t, asked{tag, z, 0, 128}.line(), "bad")
		}
		for _, mode := range []int{5, 6, 10, 128, 100000} {
			answers(t, asked{6, z, mode, 128}.line(), "bad")
		}
		for _, budget := range []int{0, 1, 64, 126, 127, 4097, 4098, 8192, 100000} {
			answers(t, asked{6, z, 0, budget}.line(), "bad")
		}
		answers(t, asked{21, z, 5, 127}.line(), "bad")
		answers(t, asked{100000, z, 100000, 100000}.line(), "bad")
	}
	// What isn't a line's word is told ahead of what is no call.
	isWrong(t, replaced(asked{21, words(3, 4), 5, 127}.line(), 4, "0"))
	isWrong(t, replaced(asked{21, words(3, 4), 0, 128}.line(), 7, "100001"))
	isWrong(t, replaced(asked{6, words(3, 4), 5, 128}.line(), 1, "-1"))
}

// At the last tag, mode and budgets it is a call.
func TestEdgesOfCalls(t *testing.T) {
	answers(t, asked{20, words(0, 1), 4, 4096}.line(), "0000000000000000/0 3fe921fb54442d18/1")
	answers(t, asked{0, words(-3, 4), 4, 128}.line(), "4014000000000000/0 0000000000000000/0")
	for _, mode := range modes {
		for _, budget := range []int{128, 129, 500, 4095, 4096} {
			answers(t, asked{6, words(3, -4), mode, budget}.line(), "4000000000000000/0 bff0000000000000/0")
		}
	}
}

func TestReach(t *testing.T) {
	for _, tag := range []int{7, 9, 10, 11, 12, 13, 14} {
		for _, z := range []api.Four{words(40000, 0), words(0, -40000), words(math.Nextafter(32768, 40000), 1), words(-1e300, 1e300)} {
			for _, mode := range modes {
				answers(t, asked{tag, z, mode, 128}.line(), "reach")
				answers(t, asked{tag, z, mode, 4096}.line(), "reach")
			}
			answers(t, asked{tag, z, 5, 128}.line(), "bad")
		}
	}
	answers(t, asked{api.Sinh, words(0, 32768), api.Even, 128}.line(), asked{api.Sinh, words(0, 32768), api.Even, 128}.answer())
	answers(t, asked{api.Sqrt, words(40000, 0), api.Even, 128}.line(), "4069000000000000/0 0000000000000000/0")
}

// Both parts Decided, with none, one or several flags, told as a number.
func TestFlags(t *testing.T) {
	zero, far := math.Copysign(0, -1), math.Inf(1)
	for _, k := range []struct {
		a    asked
		want string
	}{
		{asked{api.Sqrt, words(3, 4), 0, 128}, "4000000000000000/0 3ff0000000000000/0"},
		{asked{api.Conj, words(zero, 0x1p-1074), 0, 128}, "8000000000000000/0 8000000000000001/0"},
		{asked{api.Exp, words(1, 0), 0, 512}, "4005bf0a8b145769/1 0000000000000000/0"},
		{asked{api.Exp, words(1, zero), api.Up, 512}, "4005bf0a8b14576a/1 8000000000000000/0"},
		{asked{api.Log, words(-1, zero), 0, 128}, "0000000000000000/0 c00921fb54442d18/1"},
		{asked{api.Exp, words(1, 2), api.Cut, 128}, "bff21969c4953cd1/1 4003c618a2274afd/1"},
		{asked{api.Exp, words(1000, 0), 0, 128}, "7ff0000000000000/3 0000000000000000/0"},
		{asked{api.Exp, words(1000, 0), api.Down, 128}, "7fefffffffffffff/3 0000000000000000/0"},
		{asked{api.Exp, words(-1000, 0), 0, 128}, "0000000000000000/5 0000000000000000/0"},
		{asked{api.Exp, words(-1000, zero), api.Up, 128}, "0000000000000001/5 8000000000000000/0"},
		{asked{api.Mul, both(0x1p1023, 0x1p-1074, 2, 0.5), api.Even, 128}, "7ff0000000000000/3 7fd0000000000000/1"},
		{asked{api.Mul, both(0x1p-1074, 0x1p1023, 0.5, 0), api.Even, 128}, "0000000000000000/5 7fd0000000000000/0"},
		{asked{api.Mul, both(0x1p1023, -0x1p-1074, 2, 0), api.Even, 128}, "7ff0000000000000/3 8000000000000002/0"},
		{asked{api.Mul, both(1, 1, 1, 1), api.Down, 128}, "8000000000000000/0 4000000000000000/0"},
		{asked{api.Div, both(0x1p-1074, 0x1p1000, 3, 0), api.Even, 128}, "0000000000000000/5 7e55555555555555/1"},
		{asked{api.Div, both(0x1p-1074, -0x1p1020, 0x1p-10, 0), api.Up, 128}, "0000000000000400/0 ffefffffffffffff/3"},
		{asked{api.Div, both(0x1p-1074, 0x1.8p1023, 0.75, 0), api.Even, 128}, "0000000000000001/5 7ff0000000000000/3"},
		{asked{api.Sin, words(far, 1), 0, 128}, "7ff8000000000000/8 7ff8000000000000/8"},
		{asked{api.Sin, words(math.NaN(), 1), 0, 128}, "7ff8000000000000/0 7ff8000000000000/0"},
		{asked{api.Atan, words(0, 1), 0, 128}, "0000000000000000/16 7ff0000000000000/16"},
		{asked{api.Atanh, words(-1, zero), 0, 128}, "fff0000000000000/16 8000000000000000/16"},
		{asked{api.Log, words(zero, zero), 0, 128}, "fff0000000000000/17 c00921fb54442d18/17"},
		{asked{api.Arg, words(-far, far), 0, 128}, "4002d97c7f3321d2/1 0000000000000000/1"},
		{asked{api.Div, both(1, 0, 0, 0), 0, 128}, "7ff0000000000000/16 7ff8000000000000/16"},
	} {
		answers(t, k.a.line(), k.want)
		if k.want != k.a.answer() {
			t.Errorf("%s: the layer below answers %s, not %s", k.a.line(), k.a.answer(), k.want)
		}
	}
}

// Undecided parts: alone beside a Decided one, in either place, and both.
func TestUndecided(t *testing.T) {
	little := 0x1p-300
	for _, k := range []struct {
		a       asked
		isAbout [2]bool
		decided [2]string
		about   [2]uint64
	}{
		{asked{api.Cos, words(little, 0), api.Down, 128}, [2]bool{true, false}, [2]string{"", "8000000000000000/0"}, [2]uint64{0x3FF0000000000000, 0}},
		{asked{api.Log, words(2, little), api.Down, 128}, [2]bool{false, true}, [2]string{"3fe62e42fefa39ef/1", ""}, [2]uint64{0, 0x2D20000000000000}},
		{asked{api.Log, words(2, -little), api.Cut, 128}, [2]bool{false, true}, [2]string{"3fe62e42fefa39ef/1", ""}, [2]uint64{0, 0xAD20000000000000}},
		{asked{api.Exp, words(little, little), api.Down, 128}, [2]bool{true, true}, [2]string{}, [2]uint64{0x3FF0000000000000, 0x2D30000000000000}},
		{asked{api.Exp, words(0x1p-1074, 0x1p-1074), api.Up, 128}, [2]bool{true, true}, [2]string{}, [2]uint64{0x3FF0000000000000, 1}},
	} {
		texts := strings.Split(strings.TrimSuffix(k.a.answer(), "\n"), " ")
		answers(t, k.a.line(), strings.Join(texts, " "))
		for i, p := range k.a.parts(t) {
			if p.isAbout != k.isAbout[i] {
				t.Errorf("%s: %s", k.a.line(), texts[i])
				continue
			}
			if !p.isAbout {
				if texts[i] != k.decided[i] {
					t.Errorf("%s: %s, not %s", k.a.line(), texts[i], k.decided[i])
				}
				continue
			}
			if !isOrdered(p.low, p.top) || !isAround(p, k.about[i]) || texts[i][0] != '?' || texts[i][17] != ',' || len(texts[i]) != 34 {
				t.Errorf("%s: %s, not about %x", k.a.line(), texts[i], k.about[i])
			}
		}
	}
}

// isOrdered tells whether one word's number is below another's.
func isOrdered(a, b uint64) bool {
	return math.Float64frombits(a) < math.Float64frombits(b)
}

// isAround tells whether a part's words lie about a word, or end there, each of
// them next to it at most.
func isAround(p told, word uint64) bool {
	low, top, x := math.Float64frombits(p.low), math.Float64frombits(p.top), math.Float64frombits(word)
	return low >= math.Nextafter(x, math.Inf(-1)) && low <= x && x <= top && top <= math.Nextafter(x, math.Inf(1))
}

// The same lines with bits enough.
func TestDecidedWithBitsEnough(t *testing.T) {
	answers(t, asked{api.Cos, words(0x1p-300, 0), api.Down, 1024}.line(), "3fefffffffffffff/1 8000000000000000/0")
	answers(t, asked{api.Log, words(2, 0x1p-300), api.Down, 1024}.line(), "3fe62e42fefa39ef/1 2d1fffffffffffff/1")
	answers(t, asked{api.Log, words(2, -0x1p-300), api.Cut, 4096}.line(), "3fe62e42fefa39ef/1 ad1fffffffffffff/1")
	answers(t, asked{api.Exp, words(0x1p-300, 0x1p-300), api.Down, 2000}.line(), asked{api.Exp, words(0x1p-300, 0x1p-300), api.Down, 4096}.answer())
}

// A line reaches the layer below with each of its words at its own place.
func TestEachWordHasItsPlace(t *testing.T) {
	answers(t, "call 4 4000000000000000 4008000000000000 4014000000000000 401c000000000000 0 128", "c026000000000000/0 403d000000000000/0")
	answers(t, "call 5 4000000000000000 4008000000000000 4014000000000000 401c000000000000 3 128", asked{5, both(2, 3, 5, 7), 3, 128}.answer())
	answers(t, "call 2 4000000000000000 4008000000000000 4014000000000000 401c000000000000 4 4096", "4000000000000000/0 c008000000000000/0")
	answers(t, "call 7 0000000000000000 3ff0000000000000 0000000000000000 0000000000000000 2 200", asked{7, api.Four{0, 0x3FF0000000000000}, 2, 200}.answer())
	answers(t, "call 7 0000000000000000 3ff0000000000000 0000000000000000 0000000000000000 3 200", asked{7, api.Four{0, 0x3FF0000000000000}, 3, 200}.answer())
}
