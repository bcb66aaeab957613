package script_test

import (
	"fmt"
	"math"
	"strings"
	"testing"

	"volvelle/api"
	"volvelle/cmath"
	"volvelle/script"
)

const (
	sign     uint64 = 1 << 63
	infinity uint64 = 0x7FF0000000000000
)

// All modes, and what these are of numbers on the other side of 0.
var (
	modes  = [5]int{api.Even, api.Cut, api.Up, api.Down, api.Away}
	turned = [5]int{api.Even, api.Cut, api.Down, api.Up, api.Away}
)

// answers asks for the answer of a line that stands alone, with and without a byte
// 10 behind it.
func answers(t *testing.T, line, want string) {
	t.Helper()
	runs(t, line, want+"\n")
	runs(t, line+"\n", want+"\n")
}

// hasNone asks for a line to have no answer.
func hasNone(t *testing.T, line string) {
	t.Helper()
	runs(t, line, "")
	runs(t, line+"\n", "")
}

func isWrong(t *testing.T, line string) {
	t.Helper()
	answers(t, line, "error 1")
}

func runs(t *testing.T, text, want string) {
	t.Helper()
	if got := script.Run(text); got != want {
		t.Errorf("%s: %s, not %s", short(text), short(got), short(want))
	}
}

// short tells a text, of a long one its beginning and its length.
func short(text string) string {
	if len(text) > 200 {
		return fmt.Sprintf("%q and so on (%d bytes)", text[:200], len(text))
	}
	return fmt.Sprintf("%q", text)
}

// asked: what a call's line stands for.
type asked struct {
	tag          int
	z            api.Four
	mode, budget int
}

func (a asked) line() string {
	return fmt.Sprintf("call %d %016x %016x %016x %016x %d %d", a.tag, a.z[0], a.z[1], a.z[2], a.z[3], a.mode, a.budget)
}

// answer answers what the layer below shows.
func (a asked) answer() string {
	parts := cmath.Call(a.tag, a.z, a.mode, a.budget)
	var texts []string
	for _, p := range parts {
		switch p.Status {
		case 0:
			texts = append(texts, fmt.Sprintf("%016x/%d", p.Word, p.Flags))
		case 1:
			texts = append(texts, fmt.Sprintf("?%016x,%016x", p.Lo, p.Hi))
		case 2:
			return "reach"
		case 3:
			return "bad"
		}
	}
	return strings.Join(texts, " ")
}

// words answers four words, with u and v that are numbers.
func words(x, y float64) api.Four {
	return both(x, y, -1.25, 0.7)
}

// both answers z and w of the numbers of the language.
func both(x, y, u, v float64) api.Four {
	return api.Four{math.Float64bits(x), math.Float64bits(y), math.Float64bits(u), math.Float64bits(v)}
}

// told: what a part of a call's answer tells.
type told struct {
	isAbout  bool
	word     uint64
	flags    int
	low, top uint64
}

// read reads a part of an answer, which has one text alone.
func read(t *testing.T, text string) told {
	t.Helper()
	var p told
	back := ""
	if strings.HasPrefix(text, "?") {
		p.isAbout = true
		fmt.Sscanf(text, "?%x,%x", &p.low, &p.top)
		back = fmt.Sprintf("?%016x,%016x", p.low, p.top)
	} else {
		fmt.Sscanf(text, "%x/%d", &p.word, &p.flags)
		back = fmt.Sprintf("%016x/%d", p.word, p.flags)
	}
	if back != text {
		t.Fatalf("%q is no part of an answer", text)
	}
	return p
}

// parts reads both parts of a call's answer.
func (a asked) parts(t *testing.T) [2]told {
	t.Helper()
	texts := strings.Split(strings.TrimSuffix(script.Run(a.line()), "\n"), " ")
	if len(texts) != 2 {
		t.Fatalf("%s: %q", a.line(), texts)
	}
	return [2]told{read(t, texts[0]), read(t, texts[1])}
}

// source gives numbers that are the same in each run.
type source struct{ state uint64 }

func (s *source) next() uint64 {
	s.state += 0x9E3779B97F4A7C15
	x := s.state
	x = (x ^ x>>30) * 0xBF58476D1CE4E5B9
	x = (x ^ x>>27) * 0x94D049BB133111EB
	return x ^ x>>31
}

func (s *source) below(n int) int {
	return int(s.next() % uint64(n))
}

// of answers one of some numbers.
func (s *source) of(l ...int) int {
	return l[s.below(len(l))]
}

// number answers a word of a number of 2^-20 to 2^14 in size.
func (s *source) number() uint64 {
	return s.next()&sign | uint64(1003+s.below(34))<<52 | s.next()>>12
}

// word answers a word of any kind.
func (s *source) word() uint64 {
	side := s.next() & sign
	switch s.below(8) {
	case 0:
		return side
	case 1:
		return side | infinity
	case 2:
		return side | infinity | max(1, s.next()>>12)
	case 3:
		return side | math.Float64bits(1)
	case 4:
		return side | s.next()>>12>>s.below(52)
	case 5:
		return s.next()
	}
	return s.number()
}

// four answers words of any kinds.
func (s *source) four() api.Four {
	return api.Four{s.word(), s.word(), s.word(), s.word()}
}

// numbers answers words of numbers that are in reach of each function.
func (s *source) numbers() api.Four {
	return api.Four{s.number(), s.number(), s.number(), s.number()}
}

// shuffled answers lines in another order.
func (s *source) shuffled(l []string) []string {
	l = append([]string(nil), l...)
	for i := len(l) - 1; i > 0; i-- {
		j := s.below(i + 1)
		l[i], l[j] = l[j], l[i]
	}
	return l
}
