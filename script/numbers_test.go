package script_test

import (
	"fmt"
	"strings"
	"testing"

	"volvelle/cmath"
)

// Numbers and HEX, wherever a line has them.

// wrongNumbers answers texts that are no numbers of a script.
func wrongNumbers() []string {
	return []string{
		"00", "01", "06", "000", "0128", "00000", "0000006", "0100000", "000000000000000000000000000006",
		"+6", "-6", "+0", "-0", "-1", "+128", "--6", "6-", "-", "+", "-100000",
		"100001", "100002", "110000", "200000", "999999", "1000000", "1000006", "65536000",
		"4294967296", "4294967302", "4294967424", "9223372036854775807", "9223372036854775808", "18446744073709551615",
		"18446744073709551616", "18446744073709551622", "18446744073709551744", "340282366920938463463374607431768211462",
		strings.Repeat("9", 5000), "1" + strings.Repeat("0", 5000), strings.Repeat("0", 5000), strings.Repeat("6", 7),
		"6.0", "6.", ".6", "6e0", "1e2", "0x6", "0X6", "0b110", "0o6", "6_0", "1_28", "_6", "6,", "1,000", "'6'", "\"6\"", "6;", "6/", "/6", ":", "6:",
		"a", "6a", "a6", "x", "six", "f", "nil", "6#", "#", "%6", "٦", "６", "²", "6\xb2", "\xff", "6\x00", "\x006", "6\t", "\t6", "6\r", "6\u00a0",
	}
}

// A number of a name, of budgets, and of each place of a call.
func TestWrongNumbers(t *testing.T) {
	for _, text := range wrongNumbers() {
		isWrong(t, "name "+text)
		isWrong(t, "budgets "+text)
		for _, at := range []int{1, 6, 7} {
			isWrong(t, replaced(asked{6, words(3, 4), 0, 128}.line(), at, text))
		}
	}
}

// replaced answers a line with another text as one of its words.
func replaced(line string, at int, text string) string {
	l := strings.Split(line, " ")
	l[at] = text
	return strings.Join(l, " ")
}

func TestEdgesOfNumbers(t *testing.T) {
	for text, want := range map[string]string{"0": "abs", "1": "arg", "9": "sin", "10": "cos", "19": "acosh", "20": "atanh"} {
		answers(t, "name "+text, want)
	}
	for text, want := range map[string]string{"0": "none", "9": "none", "10": "none", "99": "none", "100": "none", "127": "none", "128": "128", "4096": "128 256 512 1024 2048 4096", "4097": "none", "9999": "none", "10000": "none", "99999": "none", "100000": "none", "100001": "error 1"} {
		answers(t, "budgets "+text, want)
	}
	for _, at := range []int{1, 6, 7} {
		for _, text := range []string{"100000", "99999", "10000", "9999"} {
			answers(t, replaced(asked{6, words(3, 4), 0, 128}.line(), at, text), "bad")
		}
		isWrong(t, replaced(asked{6, words(3, 4), 0, 128}.line(), at, "100001"))
	}
	line := asked{6, words(3, 4), 0, 128}.line()
	answers(t, replaced(line, 1, "0"), "4014000000000000/0 0000000000000000/0")
	answers(t, replaced(line, 1, "10"), asked{10, words(3, 4), 0, 128}.answer())
	answers(t, replaced(line, 6, "0"), "4000000000000000/0 3ff0000000000000/0")
	answers(t, replaced(line, 7, "0"), "bad")
	answers(t, replaced(line, 7, "9"), "bad")
	answers(t, replaced(line, 7, "10"), "bad")
}

// P15.1: every number of 0 to 100000 is read as what it is, and the budgets are
// those of the layer below; some numbers above it are wrong.
func TestAllNumbers(t *testing.T) {
	var text, want strings.Builder
	lines := 0
	flush := func() {
		runs(t, text.String(), want.String())
		text.Reset()
		want.Reset()
		lines = 0
	}
	for n := range 100100 {
		fmt.Fprintf(&text, "budgets %d\n", n)
		l := strings.Trim(fmt.Sprint(cmath.Budgets(n)), "[]")
		switch {
		case n > 100000:
			l = "error 1"
		case l == "":
			l = "none"
		}
		want.WriteString(l + "\n")
		if lines++; lines == 1024 {
			flush()
		}
	}
	flush()
}

// hexAt answers a line whose answer holds a word at a place of a call: as it is.
func hexAt(place int, text string) string {
	l := []string{"call", "3", "3ff0000000000000", "4000000000000000", "0000000000000000", "0000000000000000", "0", "128"}
	if place > 1 {
		// Products with 1.
		l = []string{"call", "4", "3ff0000000000000", "0000000000000000", "4000000000000000", "4000000000000000", "0", "128"}
	}
	l[2+place] = text
	return strings.Join(l, " ")
}

// holds asks for the answer of such a line.
func holds(t *testing.T, place int, text string) {
	t.Helper()
	want := [2]string{"3ff0000000000000/0", "4000000000000000/0"}
	if place > 1 {
		want[0] = "4000000000000000/0"
	}
	want[place%2] = text + "/0"
	answers(t, hexAt(place, text), want[0]+" "+want[1])
}

// All digits, at each place of each of the four words.
func TestDigitsOfHex(t *testing.T) {
	for place := range 4 {
		for _, text := range []string{"3ff0123456789abc", "3fedcba987654321", "0123456789abcdef", "fedcba9876543210", "0000000000000001", "8000000000000001", "000fffffffffffff", "7fefffffffffffff", "aaaaaaaaaaaaaaaa", "bbbbbbbbbbbbbbbb", "cccccccccccccccc", "dddddddddddddddd", "eeeeeeeeeeeeeeee", "9999999999999999", "1111111111111111"} {
			holds(t, place, text)
		}
		for at := range 16 {
			for _, digit := range "0123456789abcdef" {
				text := "3a55555555555555"[:at] + string(digit) + "3a55555555555555"[at+1:]
				holds(t, place, text)
			}
		}
	}
}

// Texts of other lengths, with capital letters, of other bytes.
func TestWrongHex(t *testing.T) {
	whole := "3ff0000000000abc"
	l := []string{
		whole[:15], whole[1:], whole + "0", "0" + whole, "0", "3", "a", "1234567", "00000000", "00000000000000000", whole + whole, strings.Repeat("0", 5000), strings.Repeat("f", 17),
		"0x" + whole, "0X" + whole, "0x" + whole[:14], "0x" + whole[:15], "x" + whole[:15], "+" + whole, "-" + whole, "+" + whole[:15], "-" + whole[:15], whole[:15] + "h", "$" + whole[:15],
		"3ff0_0000000000a", "3ff0.00000000000", "3ff00000000000e+", "3FF0000000000ABC", "3Ff0000000000000", "3FF0000000000000", strings.ToUpper(whole), "0000000000000o00",
		"inf", "nan", "NaN", "1.0", "3ff0000000000ａ", whole[:14] + "é", "３" + whole[:13],
	}
	for place := range 4 {
		holds(t, place, whole)
		for _, text := range l {
			isWrong(t, hexAt(place, text))
		}
	}
}

// Each byte at the beginning, in the middle and at the end of a HEX: the digits and
// the small letters from a to f alone are right.
func TestBytesOfHex(t *testing.T) {
	for place := range 4 {
		for b := range 256 {
			if b == 32 || b == 10 || strings.IndexByte("0123456789abcdef", byte(b)) >= 0 {
				continue
			}
			for _, at := range []int{0, 1, 7, 14, 15} {
				text := []byte("3ff0000000000abc")
				text[at] = byte(b)
				isWrong(t, hexAt(place, string(text)))
			}
		}
	}
}

// The words u and v have to be HEX of functions, too, that ask for z alone.
func TestHexThatPlaysNoPart(t *testing.T) {
	for tag := range 21 {
		line := asked{tag, words(0.5, 0.25), 0, 128}.line()
		for at := 2; at < 6; at++ {
			isWrong(t, replaced(line, at, "0"))
			isWrong(t, replaced(line, at, "3FF0000000000000"))
		}
	}
}
