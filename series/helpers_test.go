package series_test

import (
	"math/big"
	"slices"
	"sync"
	"testing"

	"volvelle/api"
	"volvelle/dyad"
	"volvelle/series"
)

// A constant is one of those that the layer encloses, with what tells it in
// whole numbers of the library: it lies from low to high, in units of 2 to the
// -scale. No end of a right span that is near it has more bits behind the point.
type constant struct {
	name      string
	call      func(c *series.Calc) api.Span
	low, high *big.Int
}

const (
	scale = api.MaxBits + 100
	spare = 64
)

var constants = sync.OnceValue(func() []constant {
	pi, ln2 := machin(scale+spare), halves(scale+spare)
	return []constant{
		{"Pi", (*series.Calc).Pi, about(pi, -1), about(pi, 2)},
		{"Ln2", (*series.Calc).Ln2, about(ln2, -1), about(ln2, 2)},
	}
})

// about answers x without its spare bits, in which all that was lost is held,
// and some units more.
func about(x *big.Int, units int64) *big.Int {
	cut := new(big.Int).Rsh(x, spare)
	return cut.Add(cut, big.NewInt(units))
}

// machin answers pi as 16 times the arctangent of 1/5 less 4 times that of
// 1/239, term by term: other arctangents than the layer's, summed otherwise.
func machin(bits uint) *big.Int {
	pi := new(big.Int).Mul(big.NewInt(16), arctangent(5, bits))
	return pi.Sub(pi, new(big.Int).Mul(big.NewInt(4), arctangent(239, bits)))
}

func arctangent(n int64, bits uint) *big.Int {
	sum := new(big.Int)
	power := new(big.Int).Lsh(big.NewInt(1), bits)
	power.Quo(power, big.NewInt(n))
	for k := int64(0); power.Sign() > 0; k++ {
		term := new(big.Int).Quo(power, big.NewInt(2*k+1))
		if k%2 == 1 {
			term.Neg(term)
		}
		sum.Add(sum, term)
		power.Quo(power, big.NewInt(n*n))
	}
	return sum
}

// halves answers the logarithm of 2 as the sum of all 1/(k 2^k).
func halves(bits uint) *big.Int {
	sum := new(big.Int)
	for k := uint(1); k <= bits; k++ {
		term := new(big.Int).Lsh(big.NewInt(1), bits-k)
		sum.Add(sum, term.Quo(term, big.NewInt(int64(k))))
	}
	return sum
}

// units answers a plain dyad in units of 2 to the -scale.
func units(t *testing.T, d api.Dyad) *big.Int {
	t.Helper()
	if d.E < -scale || d.E > scale {
		t.Fatalf("an end with the exponent %d", d.E)
	}
	n := new(big.Int)
	for _, x := range slices.Backward(d.M) {
		n.Or(n.Lsh(n, 64), new(big.Int).SetUint64(x))
	}
	if d.Neg {
		n.Neg(n)
	}
	return n.Lsh(n, uint(scale+d.E))
}

func calc(p int) *series.Calc {
	c := &series.Calc{}
	c.P = p
	return c
}

func sameDyad(a, b api.Dyad) bool {
	return a.Neg == b.Neg && a.E == b.E && slices.Equal(a.M, b.M)
}

func same(a, b api.Span) bool {
	return sameDyad(a.Lo, b.Lo) && sameDyad(a.Hi, b.Hi)
}

func isZero(a api.Span) bool {
	return same(a, api.Span{})
}

func isRight(a api.Span) bool {
	order, ok := dyad.Cmp(a.Lo, a.Hi)
	return ok && order <= 0
}

// copied answers a span in memory of its own.
func copied(a api.Span) api.Span {
	a.Lo.M = slices.Clone(a.Lo.M)
	a.Hi.M = slices.Clone(a.Hi.M)
	return a
}
