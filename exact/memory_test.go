package exact_test

import (
	"sync"
	"testing"

	"volvelle/api"
	"volvelle/exact"
	"volvelle/part"
)

// R4, R7 and P0.5: what is handed in isn't changed, and nothing is kept from call
// to call.

// call: what Known is asked.
type call struct {
	tag int
	z   api.Four
}

// calls answers some of each function.
func calls() []call {
	s := &source{9}
	var l []call
	for n := range 630 {
		tag := n % 21
		l = append(l, call{tag, s.point(tag)})
	}
	return l
}

// In whatever order calls are made, and with calls between that tell nothing,
// each has its answer, and the words that were handed in are as they were.
func TestNothingIsKept(t *testing.T) {
	all, before := calls(), calls()
	var first [][2]api.Fact
	for _, k := range all {
		first = append(first, exact.Known(k.tag, k.z))
	}
	for i := len(all) - 1; i >= 0; i-- {
		k := all[i]
		exact.Known(21, k.z)
		exact.Known(k.tag, api.Four{api.NaN, infinity, one, one})
		if got := exact.Known(k.tag, k.z); got != first[i] {
			t.Fatalf("%s: another answer the second time", showCall(k.tag, k.z))
		}
		inReach, singular := part.InReach(k.tag, k.z), part.Singular(k.tag, k.z)
		if all[i] != before[i] || !inReach || singular {
			t.Fatalf("%s: changed, or no longer in reach", showCall(k.tag, k.z))
		}
	}
}

// Many at once answer as one behind the other.
func TestManyAtOnce(t *testing.T) {
	all := calls()
	var group sync.WaitGroup
	answers := make([][2]api.Fact, len(all))
	for i, k := range all {
		group.Add(1)
		go func() {
			defer group.Done()
			answers[i] = exact.Known(k.tag, k.z)
		}()
	}
	group.Wait()
	for i, k := range all {
		if got := exact.Known(k.tag, k.z); got != answers[i] {
			t.Fatalf("%s: another answer", showCall(k.tag, k.z))
		}
	}
}
