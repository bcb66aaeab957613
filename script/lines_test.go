package script_test

import (
	"fmt"
	"strings"
	"testing"
)

// Lines and their words.

func TestTextsOfNoLines(t *testing.T) {
	for _, text := range []string{"", "\n", "\n\n\n", " ", "   \n \n", "#", "#\n#\n", "\n # \n\n"} {
		runs(t, text, "")
	}
}

// Lines stand between bytes 10: at the text's end, too, with one behind and
// without.
func TestLinesBetweenBytes10(t *testing.T) {
	for text, want := range map[string]string{
		"name 6":                        "sqrt\n",
		"name 6\n":                      "sqrt\n",
		"name 6\n\n":                    "sqrt\n",
		"\nname 6":                      "sqrt\n",
		"\n\nname 6\n\n\n":              "sqrt\n",
		"name 0\nname 1":                "abs\narg\n",
		"name 0\nname 1\n":              "abs\narg\n",
		"name 0\n\n  \n#\n # 1\nname 1": "abs\narg\n",
		"name 0\nx\nname 1\n":           "abs\nerror 1\narg\n",
		"x\nname 0\nname 21":            "error 1\nabs\nerror 1\n",
		"name\n0":                       "error 1\nerror 1\n",
		"name 0\nbudgets 300\nname 1":   "abs\n128 256 300\narg\n",
		"# name 0\nname 1":              "arg\n",
		"name 0 \\\nname 1":             "error 1\narg\n",
	} {
		runs(t, text, want)
	}
}

// Empty lines, lines of blanks alone, and remarks have no answer.
func TestLinesWithoutAnswers(t *testing.T) {
	for _, line := range []string{
		"", " ", "  ", "      ", strings.Repeat(" ", 5000),
		"#", "##", "# ", " #", "   #  ", "# name 6", "#name 6", "#call", "  #call 6", "#\t", "#\x00\xff", "#" + strings.Repeat("x", 5000),
	} {
		hasNone(t, line)
	}
}

// What holds a # is no remark, if its first word doesn't begin with it.
func TestNoRemarks(t *testing.T) {
	for _, line := range []string{
		"x#", "x #", "name #", "name 6 #", "name 6#", "name 6 # of it", "name# 6", "n#", "\t#", "\t# name 6", "\r#", "\x00#", "/#", "\\#", "'#", "\u00a0#", "; name 6", "// name 6",
	} {
		isWrong(t, line)
	}
}

// Words stand between bytes 32, however many of these there are.
func TestBlanks(t *testing.T) {
	for _, line := range []string{"name 6", " name 6", "name 6 ", "name  6", "    name      6   ", strings.Repeat(" ", 3000) + "name" + strings.Repeat(" ", 3000) + "6"} {
		answers(t, line, "sqrt")
	}
	answers(t, "   budgets   300   ", "128 256 300")
	line := asked{6, words(3, 4), 0, 128}.line()
	for _, blanks := range []string{" ", "  ", "     "} {
		spread := strings.ReplaceAll(line, " ", blanks)
		answers(t, spread, "4000000000000000/0 3ff0000000000000/0")
		answers(t, blanks+spread, "4000000000000000/0 3ff0000000000000/0")
		answers(t, spread+blanks, "4000000000000000/0 3ff0000000000000/0")
	}
	isWrong(t, strings.ReplaceAll(line, " ", ""))
}

// otherWhites answers texts that are white, or nothing to be seen, but no blanks.
func otherWhites() []string {
	return []string{"\t", "\r", "\x00", "\v", "\f", "\x1f", "\x7f", "\x80", "\x85", "\xa0", "\xff", "\u0085", "\u00a0", "\u1680", "\u2003", "\u2028", "\u2029", "\u3000", "\ufeff", "\u200b"}
}

// Other white bytes than 32 are parts of words: of the first one, of a number, or
// words themselves.
func TestOtherWhites(t *testing.T) {
	call := asked{6, words(3, 4), 0, 128}.line()
	for _, white := range otherWhites() {
		isWrong(t, white)
		isWrong(t, white+white)
		isWrong(t, " "+white+" ")
		for _, line := range []string{"name 6", "budgets 300", call} {
			for _, place := range []string{white + line, line + white, line + " " + white, white + " " + line, strings.Replace(line, " ", white, 1), strings.Replace(line, " ", " "+white, 1), strings.Replace(line, " ", white+" ", 1), strings.Replace(line, " ", " "+white+" ", 1)} {
				isWrong(t, place)
			}
		}
		runs(t, "name 0\r\nname 1"+white+"name 2\nname 3", "error 1\nerror 1\nproj\n")
	}
}

// No byte but 32 and 10 parts words or lines.
func TestEachByte(t *testing.T) {
	for b := range 256 {
		text := "name" + string([]byte{byte(b)}) + "6"
		want := "error 1\n"
		switch b {
		case 32:
			want = "sqrt\n"
		case 10:
			want = "error 1\nerror 1\n"
		}
		runs(t, text, want)
		text = string([]byte{byte(b)}) + " name 6"
		want = "error 1\n"
		switch b {
		case 32, 10:
			want = "sqrt\n"
		case '#':
			want = ""
		}
		runs(t, text, want)
	}
}

// A first word that is no right one, or just begins like one.
func TestOtherFirstWords(t *testing.T) {
	rest := strings.TrimPrefix(asked{6, words(3, 4), 0, 128}.line(), "call")
	for _, first := range []string{
		"x", "Call", "CALL", "calL", "cal", "calls", "call0", "call,", "call/", "ccall", "c", "callname",
		"Name", "NAME", "nam", "names", "name6", "name:", "n", "naame", "Budgets", "BUDGETS", "budget", "budgetss", "budgets128", "b",
		"sqrt", "abs", "0", "6", "128", "error", "bad", "reach", "none", "help", "quit", "-", "?", "\"call\"", "ｃall", "\xffcall", "call\xff",
	} {
		isWrong(t, first)
		isWrong(t, first+" 6")
		isWrong(t, first+" 128")
		isWrong(t, first+rest)
	}
	answers(t, "call"+rest, "4000000000000000/0 3ff0000000000000/0")
}

// A right first word with what another one takes.
func TestWordsOfOtherLines(t *testing.T) {
	rest := strings.TrimPrefix(asked{6, words(3, 4), 0, 128}.line(), "call")
	for _, line := range []string{"call", "name", "budgets", "call 6", "call 128", "name" + rest, "budgets" + rest, "name name 6", "call call" + rest, "name sqrt", "budgets 128 256"} {
		isWrong(t, line)
	}
}

// Lines of great length, and of many words.
func TestLongLines(t *testing.T) {
	for _, line := range []string{strings.Repeat("x", 60000), strings.Repeat("x ", 30000), "name " + strings.Repeat("6 ", 30000), "call " + strings.Repeat("0 ", 30000), "name " + strings.Repeat("6", 60000)} {
		isWrong(t, line)
		runs(t, "name 6\n"+line+"\nname 7", "sqrt\nerror 1\nexp\n")
	}
}

// Each line that has words and is no remark has one answer, wherever it stands.
func TestOneAnswerALine(t *testing.T) {
	s := &source{1}
	kinds := []string{"", "  ", "# x", "#", "x", "name", "name 6", " name 7 ", "budgets 300", "budgets 0", "call 1", "\t", "call 21 0000000000000000 0000000000000000 0000000000000000 0000000000000000 0 128"}
	told := []string{"", "", "", "", "error 1\n", "error 1\n", "sqrt\n", "exp\n", "128 256 300\n", "none\n", "error 1\n", "error 1\n", "bad\n"}
	for range 500 {
		var lines []string
		want := ""
		for range s.below(20) {
			n := s.below(len(kinds))
			lines = append(lines, kinds[n])
			want += told[n]
		}
		text := strings.Join(lines, "\n")
		runs(t, text, want)
		runs(t, text+"\n", want)
		runs(t, fmt.Sprintf("\n%s\n\n", text), want)
	}
}
