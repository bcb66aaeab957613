package arc_test

import (
	"sync"
	"testing"

	"volvelle/api"
	"volvelle/arc"
)

// R3, R4 and R7, P0.5: what is handed in isn't changed, but the calc, and nothing
// is kept from call to call.

// roomy answers a span in memory of its own that goes on behind its ends.
func roomy(a api.Span) api.Span {
	a.Lo.M = append(append(make([]uint64, 0, len(a.Lo.M)+3), a.Lo.M...), 0xAAAA, 0xBBBB, 0xCCCC)[:len(a.Lo.M)]
	a.Hi.M = append(append(make([]uint64, 0, len(a.Hi.M)+3), a.Hi.M...), 0xAAAA, 0xBBBB, 0xCCCC)[:len(a.Hi.M)]
	return a
}

// behind tells whether the words behind a span's ends are as roomy left them.
func behind(a api.Span) bool {
	for _, m := range [][]uint64{a.Lo.M, a.Hi.M} {
		if rest := m[len(m) : len(m)+3]; rest[0] != 0xAAAA || rest[1] != 0xBBBB || rest[2] != 0xCCCC {
			return false
		}
	}
	return true
}

func scribble(l ...api.Span) {
	for _, a := range l {
		for _, m := range [][]uint64{a.Lo.M, a.Hi.M} {
			for i := range m {
				m[i] = 0xDEAD
			}
		}
	}
}

// anything answers places, and what is refused.
func anything() []place {
	l := places()
	for i, a := range append(notRight(), notInReach()...) {
		l = append(l, place{a, good()[i%len(good())]}, place{good()[i%len(good())], a})
	}
	return append(l, place{point(zero()), point(zero())}, place{point(zero()), point(number(-1, 0))},
		place{between(number(-1, 0), one()), between(number(-1, 0), one())})
}

func TestNothingIsChanged(t *testing.T) {
	t.Parallel()
	for i, a := range anything() {
		p := 16 + i%150
		y, x := roomy(a.y), roomy(a.x)
		first := []api.Span{copied(calc(p).Atan(y)), copied(calc(p).Atan2(y, x))}
		if !same(y, a.y) || !same(x, a.x) || !behind(y) || !behind(x) {
			t.Fatalf("%v has changed", a)
		}
		if !same(first[0], calc(p).Atan(y)) || !same(first[1], calc(p).Atan2(y, x)) {
			t.Fatalf("of %v another answer the second time", a)
		}
	}
}

// One span may stand for both.
func TestSameSpanTwice(t *testing.T) {
	for i, a := range []api.Span{point(one()), between(one(), number(3, 0)), point(number(-7, -2)), point(least())} {
		handed := roomy(a)
		got := angles(t, 53, handed, handed)
		if !same(got, angles(t, 53, copied(a), copied(a))) || !same(handed, a) || !behind(handed) {
			t.Error(i, got)
		}
	}
}

// Who handed a span in, or was answered one, may do with it as he likes
// afterwards: no later call sees it.
func TestNothingIsKept(t *testing.T) {
	t.Parallel()
	all := places()
	var first []place
	for i, a := range all {
		y, x := copied(a.y), copied(a.x)
		number := calc(16 + i%90).Atan(y)
		angle := calc(16+i%90).Atan2(y, x)
		first = append(first, place{copied(number), copied(angle)})
		scribble(y, x, number, angle)
	}
	// The other way round, with one calc for all.
	used := &arc.Calc{}
	for i := len(all) - 1; i >= 0; i-- {
		used.P = 16 + i%90
		if !same(used.Atan2(all[i].y, all[i].x), first[i].x) || !same(used.Atan(all[i].y), first[i].y) {
			t.Fatalf("of %s and %s another answer the second time", showSpan(all[i].y), showSpan(all[i].x))
		}
	}
	if used.Bad {
		t.Error("the calc is bad")
	}
}

// Calcs share no state: many at once answer as one behind the other.
func TestManyAtOnce(t *testing.T) {
	t.Parallel()
	all := places()[:200]
	var group sync.WaitGroup
	answers := make([]place, len(all))
	for i, a := range all {
		group.Add(1)
		go func() {
			defer group.Done()
			c := calc(16 + i)
			answers[i] = place{c.Atan2(a.y, a.x), c.Atan(a.x)}
		}()
	}
	group.Wait()
	for i, a := range all {
		c := calc(16 + i)
		if !same(c.Atan2(a.y, a.x), answers[i].y) || !same(c.Atan(a.x), answers[i].x) {
			t.Fatalf("of %s and %s another answer", showSpan(a.y), showSpan(a.x))
		}
	}
}

// Behind a refused call nothing is changed but that the calc is bad.
func TestRefusedCall(t *testing.T) {
	for i, call := range []func(c *arc.Calc){
		func(c *arc.Calc) { c.Atan(point(number(1, 20001))) },
		func(c *arc.Calc) { c.Atan2(point(one()), point(number(1, -20001))) },
		func(c *arc.Calc) { c.Atan2(point(zero()), point(zero())) },
	} {
		c, untouched := calc(60), calc(60)
		other := *c
		call(c)
		if !c.Bad || c.P != 60 || other.Bad || untouched.Bad || isZero(other.Atan(point(number(2, 0)))) {
			t.Error(i, *c, other)
		}
	}
}
