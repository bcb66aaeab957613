package script_test

import (
	"regexp"
	"strings"
	"sync"
	"testing"

	"volvelle/script"
)

// P0, P0.5 and R7: each call ends, whatever the text is, and nothing is kept from
// call to call.

// scripts answers texts of all sorts, some of them too long.
func scripts() []string {
	s := &source{10}
	lines := someLines()
	l := []string{"", "\n", "#", "x", strings.Join(lines, "\n"), strings.Repeat("x", 65537), strings.Repeat("\n", 1025), strings.Repeat("name 6\n", 1024), strings.Repeat("x ", 40000)}
	for range 60 {
		l = append(l, strings.Join(s.shuffled(lines)[:s.below(12)], "\n"))
	}
	return append(l, lines...)
}

// Whatever was called ahead, a text has its answer.
func TestNothingIsKept(t *testing.T) {
	t.Parallel()
	all := scripts()
	var first []string
	for _, text := range all {
		first = append(first, script.Run(text))
	}
	for i := len(all) - 1; i >= 0; i-- {
		if got := script.Run(all[i]); got != first[i] {
			t.Fatalf("%s: another answer the second time", short(all[i]))
		}
		script.Run(all[(i*7)%len(all)])
		if got := script.Run(all[i]); got != first[i] {
			t.Fatalf("%s: another answer the third time", short(all[i]))
		}
	}
}

// Many at once answer as one behind the other.
func TestManyAtOnce(t *testing.T) {
	t.Parallel()
	all := scripts()
	var group sync.WaitGroup
	told := make([]string, len(all))
	for i, text := range all {
		group.Add(1)
		go func() {
			defer group.Done()
			told[i] = script.Run(text)
		}()
	}
	group.Wait()
	for i, text := range all {
		if got := script.Run(text); got != told[i] {
			t.Fatalf("%s: another answer", short(text))
		}
	}
}

// text answers one of the pieces that lines are made of, or that break them.
func (s *source) text() string {
	pieces := []string{"call", "name", "budgets", " ", " ", " ", "  ", "\n", "#", "0", "6", "20", "21", "128", "4096", "100000", "100001", "00", "-1", "3ff0000000000000", "8000000000000000", "7ff8000000000000", "3FF0000000000000", "0x", "f", "\t", "\r", "\x00", "\xff", "é", "?", "/", ","}
	var b strings.Builder
	for range s.below(40) {
		b.WriteString(pieces[s.below(len(pieces))])
	}
	return b.String()
}

// Any text is answered: by one line of a form that is told for each that has words
// and is no remark.
func TestAnyText(t *testing.T) {
	t.Parallel()
	form := regexp.MustCompile(`^(error 1|bad|reach|none|[a-z]{3,5}|\d{3,4}( \d{3,4})*|([0-9a-f]{16}/\d+|\?[0-9a-f]{16},[0-9a-f]{16})( ([0-9a-f]{16}/\d+|\?[0-9a-f]{16},[0-9a-f]{16})))$`)
	s := &source{11}
	for range 20000 {
		text := s.text()
		count := 0
		for _, line := range strings.Split(text, "\n") {
			if line = strings.TrimLeft(line, " "); line != "" && line[0] != '#' {
				count++
			}
		}
		got := script.Run(text)
		if strings.Count(got, "\n") != count || got != "" && !strings.HasSuffix(got, "\n") {
			t.Fatalf("%s: %s, not of %d lines", short(text), short(got), count)
		}
		for _, line := range strings.Split(strings.TrimSuffix(got, "\n"), "\n") {
			if count > 0 && !form.MatchString(line) {
				t.Fatalf("%s: %q", short(text), line)
			}
		}
	}
}

// Any bytes at all.
func TestAnyBytes(t *testing.T) {
	t.Parallel()
	s := &source{12}
	for range 2000 {
		text := make([]byte, s.below(300))
		for i := range text {
			text[i] = byte(s.next())
		}
		got := script.Run(string(text))
		if strings.Trim(strings.ReplaceAll(got, "error 1\n", ""), "\n") != "" {
			t.Fatalf("%s: %s", short(string(text)), short(got))
		}
	}
}
