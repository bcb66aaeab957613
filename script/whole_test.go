package script_test

import (
	"math"
	"strings"
	"testing"

	"volvelle/api"
)

// Texts that are too long, and the examples.

// padded answers a text of so many bytes in all, whose beginning is a remark.
func padded(bytes int, text string) string {
	return "#" + strings.Repeat("x", bytes-len(text)-2) + "\n" + text
}

// A text of 65536 bytes is answered, one of 65537 is not.
func TestBytes(t *testing.T) {
	for text, want := range map[string]string{
		"name 6":                           "sqrt\n",
		"name 6\n":                         "sqrt\n",
		"name 21\n":                        "error 1\n",
		"  ":                               "",
		"x\n\n  \n# \nname 6\nbudgets 300": "error 1\nsqrt\n128 256 300\n",
	} {
		for _, bytes := range []int{65534, 65535, 65536} {
			runs(t, padded(bytes, text), want)
		}
		for _, bytes := range []int{65537, 65538, 131072, 200000} {
			runs(t, padded(bytes, text), "error 4\n")
		}
	}
}

// Bytes count, whatever they are: of lines without answers, of wrong ones, of
// blanks, and of signs of several bytes.
func TestAllBytesCount(t *testing.T) {
	for text, want := range map[string]string{"x": "error 1\n", " ": "", "#": "", "\x00": "error 1\n", "\t": "error 1\n", "\xff": "error 1\n"} {
		runs(t, strings.Repeat(text, 65536), want)
		runs(t, strings.Repeat(text, 65537), "error 4\n")
	}
	runs(t, strings.Repeat("é", 32768), "error 1\n")
	runs(t, strings.Repeat("é", 32768)+"x", "error 4\n")
	runs(t, strings.Repeat("é", 40000), "error 4\n")
	runs(t, "name 6"+strings.Repeat(" ", 65530), "sqrt\n")
	runs(t, "name 6"+strings.Repeat(" ", 65531), "error 4\n")
	runs(t, strings.Repeat(" ", 65530)+"name 6", "sqrt\n")
	runs(t, strings.Repeat(" ", 65531)+"name 6", "error 4\n")
	runs(t, strings.Repeat("x ", 32768), "error 1\n")
	runs(t, strings.Repeat("x ", 32768)+"\n", "error 4\n")
}

// A text of 1024 bytes 10 is answered, one of 1025 is not.
func TestLines(t *testing.T) {
	for line, want := range map[string]string{"name 6": "sqrt\n", "": "", " ": "", "# name 6": "", "#": "", "x": "error 1\n", "name 21": "error 1\n", "budgets 0": "none\n", "\r": "error 1\n"} {
		for _, n := range []int{1, 2, 1022, 1023, 1024} {
			runs(t, strings.Repeat(line+"\n", n), strings.Repeat(want, n))
		}
		runs(t, strings.Repeat(line+"\n", 1024)+line, strings.Repeat(want, 1025))
		runs(t, strings.Repeat(line+"\n", 1024)+"name 7", strings.Repeat(want, 1024)+"exp\n")
		for _, n := range []int{1025, 1026, 2048} {
			runs(t, strings.Repeat(line+"\n", n), "error 4\n")
		}
		runs(t, strings.Repeat(line+"\n", 1024)+"name 7\n", "error 4\n")
		runs(t, "\n"+strings.Repeat(line+"\n", 1024), "error 4\n")
	}
	runs(t, strings.Repeat("\r", 2000), "error 1\n")
	runs(t, strings.Repeat("\n", 65536), "error 4\n")
}

// Both at once, and each alone with the other at its limit.
func TestBytesAndLines(t *testing.T) {
	full := padded(65536, strings.Repeat("name 6\n", 1023)+"name 6 ")
	if len(full) != 65536 || strings.Count(full, "\n") != 1024 {
		t.Fatalf("%d bytes, %d bytes 10", len(full), strings.Count(full, "\n"))
	}
	runs(t, full, strings.Repeat("sqrt\n", 1024))
	runs(t, full+" ", "error 4\n")
	runs(t, full+"\n", "error 4\n")
	runs(t, full+"\nname 6\n", "error 4\n")
	runs(t, full[:65535]+"\n", "error 4\n")
	runs(t, full[:65535], strings.Repeat("sqrt\n", 1024))
	many := strings.Repeat("\n", 1025) + strings.Repeat(" ", 65536-1025)
	runs(t, many, "error 4\n")
	runs(t, many[1:], "")
	runs(t, " "+many[1:], "")
	runs(t, many+" ", "error 4\n")
}

// A script of nearly as many calls as its bytes allow ends.
func TestManyCalls(t *testing.T) {
	s := &source{2}
	var text, want strings.Builder
	for n := 0; ; n++ {
		a := asked{n % 21, s.four(), n % 5, 4096}
		if text.Len()+len(a.line())+1 > 65536 {
			break
		}
		text.WriteString(a.line() + "\n")
		want.WriteString(a.answer() + "\n")
	}
	runs(t, text.String(), want.String())
}

// The examples of the document, as lines.
func TestExamplesOfTheWhole(t *testing.T) {
	zero, little := math.Copysign(0, -1), 0x1p-300
	var text, want []string
	for _, k := range []struct {
		a    asked
		want string
	}{
		{asked{api.Sqrt, words(3, 4), api.Even, 128}, "4000000000000000/0 3ff0000000000000/0"},
		{asked{api.Exp, words(1, 0), api.Even, 512}, "4005bf0a8b145769/1 0000000000000000/0"},
		{asked{api.Exp, words(1000, 0), api.Up, 128}, "7ff0000000000000/3 0000000000000000/0"},
		{asked{api.Exp, words(1000, 0), api.Cut, 128}, "7fefffffffffffff/3 0000000000000000/0"},
		{asked{api.Cos, words(little, 0), api.Down, 4096}, "3fefffffffffffff/1 8000000000000000/0"},
		{asked{api.Log, words(-1, 0), api.Even, 128}, "0000000000000000/0 400921fb54442d18/1"},
		{asked{api.Log, words(-1, zero), api.Even, 128}, "0000000000000000/0 c00921fb54442d18/1"},
		{asked{api.Atan, words(0, 1), api.Even, 128}, "0000000000000000/16 7ff0000000000000/16"},
		{asked{api.Sin, words(math.Inf(-1), 0), api.Even, 128}, "7ff8000000000000/8 7ff8000000000000/8"},
		{asked{api.Sin, words(40000, 0), api.Even, 128}, "reach"},
		{asked{api.Mul, both(1, 1, 1, 1), api.Down, 128}, "8000000000000000/0 4000000000000000/0"},
	} {
		answers(t, k.a.line(), k.want)
		text, want = append(text, k.a.line()), append(want, k.want)
	}
	runs(t, strings.Join(text, "\n"), strings.Join(want, "\n")+"\n")
	answers(t, "call 6 4008000000000000 4010000000000000 0000000000000000 0000000000000000 0 128", "4000000000000000/0 3ff0000000000000/0")
}
