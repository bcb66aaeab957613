package nat_test

import (
	"slices"
	"testing"

	"volvelle/nat"
)

// R4: what is handed in isn't changed, not even behind its end, and shares no
// memory with what is answered; nor do two answers of one call.

// calls answers all calls of the layer that answer lists.
func calls() map[string]func(a, b list) []list {
	return map[string]func(a, b list) []list{
		"Trim":       func(a, b list) []list { return []list{nat.Trim(a)} },
		"Add":        func(a, b list) []list { return []list{nat.Add(a, b)} },
		"Sub":        func(a, b list) []list { d, _ := nat.Sub(a, b); return []list{d} },
		"Mul":        func(a, b list) []list { return []list{nat.Mul(a, b)} },
		"DivMod":     func(a, b list) []list { q, r, _ := nat.DivMod(a, b); return []list{q, r} },
		"Shl by 0":   func(a, b list) []list { return []list{nat.Shl(a, 0)} },
		"Shl by 67":  func(a, b list) []list { return []list{nat.Shl(a, 67)} },
		"Shr by 0":   func(a, b list) []list { return []list{nat.Shr(a, 0)} },
		"Shr by 67":  func(a, b list) []list { return []list{nat.Shr(a, 67)} },
		"Sqrt":       func(a, b list) []list { s, r := nat.Sqrt(a); return []list{s, r} },
		"Cmp, Bits":  func(a, b list) []list { return []list{{uint64(nat.Cmp(a, b)), uint64(nat.Bits(a))}} },
		"Shl refuse": func(a, b list) []list { return []list{nat.Shl(a, -1), nat.Shr(a, -1)} },
	}
}

// roomy answers a in memory that goes on behind its end.
func roomy(a list) (all, front list) {
	all = append(slices.Clone(a), 0xAAAA, 0xBBBB, 0xCCCC)
	return all, all[:len(a)]
}

// scribble overwrites a list up to its capacity.
func scribble(a list) {
	a = a[:cap(a)]
	for i := range a {
		a[i] = 0xDEAD
	}
}

func checkMemory(t *testing.T, name string, call func(a, b list) []list, a, b list) {
	t.Helper()
	allA, frontA := roomy(a)
	allB, frontB := roomy(b)
	wasA, wasB := slices.Clone(allA), slices.Clone(allB)
	answers := call(frontA, frontB)
	if !slices.Equal(allA, wasA) || !slices.Equal(allB, wasB) {
		t.Fatalf("%s of %x and %x changed what it was given", name, a, b)
	}
	kept := make([]list, len(answers))
	for i, x := range answers {
		kept[i] = slices.Clone(x)
	}
	scribble(allA)
	scribble(allB)
	for i, x := range answers {
		if !slices.Equal(x, kept[i]) {
			t.Fatalf("%s of %x and %x: answer %d shares memory with an argument or another answer", name, a, b, i)
		}
		scribble(x)
	}
	// R7, with no state from call to call.
	again := call(a, b)
	for i, x := range again {
		if !slices.Equal(x, kept[i]) {
			t.Fatalf("%s of %x and %x answers otherwise the second time", name, a, b)
		}
	}
}

func TestMemory(t *testing.T) {
	few := lists(3, 0, 1, half, most)
	w := &words{7}
	for range 40 {
		few = append(few, w.list(8))
	}
	for name, call := range calls() {
		for _, a := range few {
			for _, b := range few {
				checkMemory(t, name, call, a, b)
			}
		}
	}
}

// One list may be handed in twice.
func TestSameListTwice(t *testing.T) {
	for a := range singles {
		_, b := roomy(a)
		if !slices.Equal(nat.Add(b, b), nat.Shl(a, 1)) || nat.Cmp(b, b) != 0 {
			t.Fatalf("%x and itself", a)
		}
		if d, ok := nat.Sub(b, b); !ok || len(d) != 0 {
			t.Fatalf("%x less itself = %x, %v", a, d, ok)
		}
		if !slices.Equal(nat.Mul(b, b), nat.Mul(b, slices.Clone(b))) {
			t.Fatalf("%x times itself", a)
		}
		q, r, ok := nat.DivMod(b, b)
		if nat.Bits(a) > 0 && (!ok || !slices.Equal(q, list{1}) || len(r) != 0) {
			t.Fatalf("%x over itself = %x, %x, %v", a, q, r, ok)
		}
		if !slices.Equal(b, a) {
			t.Fatalf("%x was changed to %x", a, b)
		}
	}
}
