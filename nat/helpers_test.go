package nat_test

import (
	"math/big"
	"slices"
	"testing"
)

type list = []uint64

const (
	most = ^uint64(0)
	half = uint64(1) << 63
)

// toBig is worked by shifts and sums alone, so that it doesn't hang on the
// machine's word size, or on whether a list is trimmed.
func toBig(a list) *big.Int {
	n := new(big.Int)
	for i := len(a) - 1; i >= 0; i-- {
		n.Lsh(n, 64)
		n.Or(n, new(big.Int).SetUint64(a[i]))
	}
	return n
}

// same tells whether an answer is trimmed and stands for the number.
func same(answer list, n *big.Int) bool {
	if len(answer) > 0 && answer[len(answer)-1] == 0 {
		return false
	}
	return toBig(answer).Cmp(n) == 0
}

func equal(t *testing.T, what string, got, want list) {
	t.Helper()
	if !slices.Equal(got, want) {
		t.Errorf("%s: %x, not %x", what, got, want)
	}
}

// words is a source of words that is the same in each run: a third of them
// are those at which carries and guesses go wrong.
type words struct{ state uint64 }

func (w *words) next() uint64 {
	w.state += 0x9E3779B97F4A7C15
	x := w.state
	x = (x ^ x>>30) * 0xBF58476D1CE4E5B9
	x = (x ^ x>>27) * 0x94D049BB133111EB
	return x ^ x>>31
}

func (w *words) word() uint64 {
	edges := list{0, 0, 1, 2, half - 1, half, half + 1, most - 1, most, most}
	if w.next()%3 == 0 {
		return edges[w.next()%uint64(len(edges))]
	}
	return w.next() >> (w.next() % 64)
}

// list answers one of up to n words, now and then not trimmed.
func (w *words) list(n int) list {
	a := make(list, w.next()%uint64(n+1))
	for i := range a {
		a[i] = w.word()
	}
	return a
}

// lists answers all lists of up to n of the words.
func lists(n int, of ...uint64) []list {
	all := []list{nil}
	for last := all; n > 0; n-- {
		var longer []list
		for _, a := range last {
			for _, x := range of {
				longer = append(longer, append(slices.Clone(a), x))
			}
		}
		all = append(all, longer...)
		last = longer
	}
	return all
}

// pairs goes over lists at the edges, all of them with all, and then over
// longer ones.
func pairs(yield func(a, b list) bool) {
	edges := lists(3, 0, 1, half-1, half, most-1, most)
	for _, a := range edges {
		for _, b := range edges {
			if !yield(a, b) {
				return
			}
		}
	}
	w := &words{1}
	for range 20000 {
		if !yield(w.list(9), w.list(6)) {
			return
		}
	}
	for range 200 {
		if !yield(w.list(150), w.list(90)) {
			return
		}
	}
}

// singles goes likewise over lists one by one.
func singles(yield func(a list) bool) {
	for _, a := range lists(4, 0, 1, half-1, half, most-1, most) {
		if !yield(a) {
			return
		}
	}
	w := &words{2}
	for range 20000 {
		if !yield(w.list(12)) {
			return
		}
	}
	for range 200 {
		if !yield(w.list(200)) {
			return
		}
	}
}
