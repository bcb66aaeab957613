package special_test

import (
	"sync"
	"testing"

	"volvelle/api"
	"volvelle/special"
)

// R4, R7 and P0.5: what is handed in isn't changed, and nothing is kept from call
// to call.

// call: what Special is asked.
type call struct {
	tag int
	z   api.Four
}

// calls answers some of each function, and of other tags.
func calls() []call {
	s := &source{9}
	var l []call
	for n := range 2000 {
		l = append(l, call{n%23 - 1, s.four()})
	}
	return l
}

// In whatever order calls are made, and with calls between of others, each has its
// answer, and the words that were handed in are as they were.
func TestNothingIsKept(t *testing.T) {
	all, before := calls(), calls()
	var first []told
	for _, k := range all {
		first = append(first, toldOf(k.tag, k.z))
	}
	for i := len(all) - 1; i >= 0; i-- {
		k := all[i]
		special.Special(21, k.z)
		special.Special(api.Log, api.Four{sign, sign})
		if got := toldOf(k.tag, k.z); got != first[i] {
			t.Fatalf("%s: another answer the second time", showCall(k.tag, k.z))
		}
		if all[i] != before[i] || k != before[i] {
			t.Fatalf("%s: changed", showCall(k.tag, k.z))
		}
	}
}

// Many at once answer as one behind the other.
func TestManyAtOnce(t *testing.T) {
	all := calls()
	var group sync.WaitGroup
	answers := make([]told, len(all))
	for i, k := range all {
		group.Add(1)
		go func() {
			defer group.Done()
			answers[i] = toldOf(k.tag, k.z)
		}()
	}
	group.Wait()
	for i, k := range all {
		if got := toldOf(k.tag, k.z); got != answers[i] {
			t.Fatalf("%s: another answer", showCall(k.tag, k.z))
		}
	}
}
