package script

import (
	"strconv"
	"strings"
)

const (
	greatestNumber = 100000
	hexDigits      = 16
)

// wordsOf answers a line's words. Bytes 32 alone are blanks: other white ones are
// parts of words.
func wordsOf(line string) []string {
	return strings.FieldsFunc(line, func(r rune) bool { return r == ' ' })
}

// hexText answers a word's text, of as many digits whatever the word is.
func hexText(b uint64) string {
	digits := strconv.FormatUint(b, 16)
	return strings.Repeat("0", hexDigits-len(digits)) + digits
}

// reader reads a line's words one behind the other. It is bad, once a word that
// is asked for is missing or isn't as told: whoever reads asks that at the end
// alone.
type reader struct {
	words []string
	isBad bool
}

// next answers the next word, an empty one if none is left.
func (r *reader) next() string {
	if len(r.words) == 0 {
		r.isBad = true
		return ""
	}
	word := r.words[0]
	r.words = r.words[1:]
	return word
}

// number reads a number. It has one text alone: signs, leading zeros and the like
// aren't told back.
func (r *reader) number() int {
	word := r.next()
	n, err := strconv.Atoi(word)
	if err != nil || n < 0 || n > greatestNumber || strconv.Itoa(n) != word {
		r.isBad = true
	}
	return n
}

// hex reads a word of 64 bits, which has one text alone, too.
func (r *reader) hex() uint64 {
	word := r.next()
	b, err := strconv.ParseUint(word, 16, 64)
	if err != nil || hexText(b) != word {
		r.isBad = true
	}
	return b
}

// isDone tells whether all words were read, and each was as told.
func (r *reader) isDone() bool {
	return !r.isBad && len(r.words) == 0
}
