package part_test

import (
	"math"
	"math/big"
	"math/cmplx"
	"testing"

	"volvelle/api"
	"volvelle/part"
)

// P11.1: ends that are known: to so many digits of base 10, or, without a point,
// just that number. None of these digits come of the project.

const (
	pi          = "3.1415926535897932384626433832795028841971693993"
	halfOfPi    = "1.5707963267948966192313216916397514420985846996"
	quarterOfPi = "0.7853981633974483096156608458198757210492923498"
	threeFourth = "2.3561944901923449288469825374596271631478770495"
	halfOfLog3  = "0.5493061443340548456976226184612628523237452789"
	logOf2      = "0.6931471805599453094172321214581765680755001343"
	halfOfLog2  = "0.3465735902799726547086160607290882840377500671"

	// Half the logarithms of 2^53 + 1 and 2^54 - 1, just beside singular points.
	farAbove = "18.368400284838550755067802449899502993694425945"
	farBelow = "18.714973875118523326509691663741853057075734170"

	// arcosh and arccos of the words next to 1, and others of these and of 2, 1/2.
	arcoshAbove = "2.1073424255447015503547803751828000883925425386e-8"
	arccosBelow = "1.4901161193847656387863435425504615922399221269e-8"
	arcsinBelow = "1.5707963118937354253836653037763160165939687772"
	arccosMinus = "3.1415926386886320446149869954160674586925534769"
	arcoshOf2   = "1.3169578969248167086250463473079684440269819714"
	sixthOfPi   = "0.5235987755982988730771072305465838140328615665"
	thirdOfPi   = "1.0471975511965977461542144610931676280657231331"
	twoThirds   = "2.0943951023931954923084289221863352561314462662"
)

const (
	under = 0x1.fffffffffffffp-1
	over  = 0x1.0000000000001p0
	least = 0x1p-1074
	most  = 0x1.fffffffffffffp1023
)

// known: what is known of a function at x and y, u and v.
type known struct {
	tag           int
	x, y          float64
	first, second string
}

// minusZero answers the zero of sign 1.
func minusZero() float64 {
	return math.Copysign(0, -1)
}

// checkEnd holds an answer of p bits against a known one.
func checkEnd(t *testing.T, p, tag int, z api.Four, i int, a api.Span, text string) {
	t.Helper()
	want, _, err := big.ParseFloat(text, 10, 300, big.ToNearestEven)
	if err != nil {
		t.Fatal(err)
	}
	if want.IsInt() {
		if !isLone(a) || exactly(a.Lo).Cmp(want) != 0 {
			t.Errorf("%s with %d bits, %d: %s, not just %s", showCall(tag, z), p, i, showSpan(a), text)
		}
		return
	}
	if !isHeld(a, want, 145) || !isWithin(a, p-4) {
		t.Errorf("%s with %d bits, %d: %s, not %s", showCall(tag, z), p, i, showSpan(a), text)
	}
}

func checkKnown(t *testing.T, l []known) {
	t.Helper()
	for _, k := range l {
		z := api.Four{word(k.x), word(k.y), word(1), word(1)}
		for _, p := range []int{16, 17, 53, 64, 100, 1000, 6000} {
			got := enclosed(t, p, k.tag, z)
			checkEnd(t, p, k.tag, z, 0, got[0], k.first)
			checkEnd(t, p, k.tag, z, 1, got[1], k.second)
		}
	}
}

func TestKnownOfNumbers(t *testing.T) {
	t.Parallel()
	checkKnown(t, []known{
		{api.Abs, 3, 4, "5", "0"}, {api.Abs, -3, -4, "5", "0"}, {api.Abs, 0, -7, "7", "0"}, {api.Abs, 0, minusZero(), "0", "0"},
		{api.Abs, 1, 1, "1.4142135623730950488016887242096980785696718753", "0"},
		{api.Conj, 3, 4, "3", "-4"}, {api.Conj, -3, -4, "-3", "4"}, {api.Conj, 0, minusZero(), "0", "0"},
		{api.Proj, 3, 4, "3", "4"}, {api.Proj, -3, -4, "-3", "-4"},
		// u and v are 1 and 1.
		{api.Mul, 1, 1, "0", "2"}, {api.Mul, 3, 5, "-2", "8"}, {api.Mul, 3, -5, "8", "-2"}, {api.Mul, 0, minusZero(), "0", "0"},
		{api.Div, 4, 2, "3", "-1"}, {api.Div, 2, 4, "3", "1"}, {api.Div, -2, 2, "0", "2"}, {api.Div, 2, 2, "2", "0"},
		{api.Div, minusZero(), 0, "0", "0"},
		{api.Sqrt, 3, 4, "2", "1"}, {api.Sqrt, 3, -4, "2", "-1"}, {api.Sqrt, -3, 4, "1", "2"}, {api.Sqrt, -3, -4, "1", "-2"},
		{api.Sqrt, 0, 2, "1", "1"}, {api.Sqrt, minusZero(), -2, "1", "-1"}, {api.Sqrt, 9, 0, "3", "0"}, {api.Sqrt, 9, minusZero(), "3", "0"},
		{api.Sqrt, -9, 0, "0", "3"}, {api.Sqrt, -9, minusZero(), "0", "-3"}, {api.Sqrt, 0, 0, "0", "0"},
		{api.Sqrt, minusZero(), minusZero(), "0", "0"},
		{api.Sqrt, 0, 1, "0.7071067811865475244008443621048490392848359376", "0.7071067811865475244008443621048490392848359376"},
		{api.Sqrt, -2, minusZero(), "0", "-1.4142135623730950488016887242096980785696718753"},
	})
}

func TestKnownOfAngles(t *testing.T) {
	t.Parallel()
	l := []known{
		{api.Log, 1, 0, "0", "0"}, {api.Log, 1, minusZero(), "0", "0"}, {api.Log, -1, 0, "0", pi}, {api.Log, -1, minusZero(), "0", "-" + pi},
		{api.Log, 0, 1, "0", halfOfPi}, {api.Log, minusZero(), -1, "0", "-" + halfOfPi}, {api.Log, 2, 0, logOf2, "0"},
		{api.Log, 1, 1, halfOfLog2, quarterOfPi}, {api.Log, -1, -1, halfOfLog2, "-" + threeFourth},
	}
	for _, x := range []float64{least, 1, 3, most} {
		l = append(l, known{api.Arg, -x, 0, pi, "0"}, known{api.Arg, -x, minusZero(), "-" + pi, "0"},
			known{api.Arg, x, 0, "0", "0"}, known{api.Arg, x, minusZero(), "0", "0"},
			known{api.Arg, 0, x, halfOfPi, "0"}, known{api.Arg, minusZero(), x, halfOfPi, "0"},
			known{api.Arg, 0, -x, "-" + halfOfPi, "0"}, known{api.Arg, minusZero(), -x, "-" + halfOfPi, "0"},
			known{api.Arg, x, x, quarterOfPi, "0"}, known{api.Arg, x, -x, "-" + quarterOfPi, "0"},
			known{api.Arg, -x, x, threeFourth, "0"}, known{api.Arg, -x, -x, "-" + threeFourth, "0"})
	}
	checkKnown(t, append(l,
		known{api.Arg, 0, 0, "0", "0"}, known{api.Arg, 0, minusZero(), "0", "0"},
		known{api.Arg, minusZero(), 0, pi, "0"}, known{api.Arg, minusZero(), minusZero(), "-" + pi, "0"}))
}

// An angle leaps by twice pi where y's sign changes to the left, even of the
// least y there is.
func TestBesideTheCut(t *testing.T) {
	t.Parallel()
	wide, _, _ := big.ParseFloat(pi, 10, 200, big.ToZero)
	for _, y := range []float64{least, 0x1p-300} {
		for _, tag := range []int{api.Arg, api.Log} {
			at := map[int]int{api.Arg: 0, api.Log: 1}[tag]
			high, low := enclosed(t, 100, tag, words(-1, y))[at], enclosed(t, 100, tag, words(-1, -y))[at]
			if !isHeld(high, wide, 145) || !isHeld(low, wide.Neg(wide), 145) {
				t.Errorf("%d beside the cut: %s and %s", tag, showSpan(high), showSpan(low))
			}
			wide.Neg(wide)
		}
	}
}

// known with x and y, and both components, changed over: a hyperbolic function.
func (k known) turned(tag int) known {
	return known{tag, k.y, k.x, k.second, k.first}
}

func TestKnownOfArctangents(t *testing.T) {
	t.Parallel()
	var l []known
	for _, y := range []struct {
		y    float64
		area string
	}{{0.5, halfOfLog3}, {under, farBelow}, {over, farAbove}, {2, halfOfLog3}} {
		angle := "0"
		if y.y > 1 {
			angle = halfOfPi
		}
		l = append(l, known{api.Atan, 0, y.y, angle, y.area}, known{api.Atan, 0, -y.y, angle, "-" + y.area},
			known{api.Atan, minusZero(), y.y, "-" + angle, y.area}, known{api.Atan, minusZero(), -y.y, "-" + angle, "-" + y.area})
	}
	l = append(l, known{api.Atan, 0, 0, "0", "0"}, known{api.Atan, minusZero(), minusZero(), "0", "0"},
		known{api.Atan, 1, 0, quarterOfPi, "0"}, known{api.Atan, -1, minusZero(), "-" + quarterOfPi, "0"})
	for _, k := range l {
		l = append(l, k.turned(api.Atanh))
	}
	checkKnown(t, l)
}

func TestKnownOfArcsines(t *testing.T) {
	t.Parallel()
	var l []known
	for _, k := range []struct {
		x                            float64
		arcsine, arccosine, opposite string
		area                         string
	}{
		{0.5, sixthOfPi, thirdOfPi, twoThirds, "0"}, {under, arcsinBelow, arccosBelow, arccosMinus, "0"}, {1, halfOfPi, "0", pi, "0"},
		{over, halfOfPi, "0", pi, arcoshAbove}, {2, halfOfPi, "0", pi, arcoshOf2}, {0, "0", halfOfPi, halfOfPi, "0"},
		{minusZero(), "0", halfOfPi, halfOfPi, "0"},
	} {
		l = append(l, known{api.Asin, k.x, 0, k.arcsine, k.area}, known{api.Asin, k.x, minusZero(), k.arcsine, "-" + k.area},
			known{api.Asin, -k.x, 0, "-" + k.arcsine, k.area}, known{api.Asin, -k.x, minusZero(), "-" + k.arcsine, "-" + k.area},
			known{api.Acos, k.x, 0, k.arccosine, "-" + k.area}, known{api.Acos, k.x, minusZero(), k.arccosine, k.area},
			known{api.Acos, -k.x, 0, k.opposite, "-" + k.area}, known{api.Acos, -k.x, minusZero(), k.opposite, k.area},
			known{api.Acosh, k.x, 0, k.area, k.arccosine}, known{api.Acosh, k.x, minusZero(), k.area, "-" + k.arccosine},
			known{api.Acosh, -k.x, 0, k.area, k.opposite}, known{api.Acosh, -k.x, minusZero(), k.area, "-" + k.opposite})
	}
	for _, k := range l {
		if k.tag == api.Asin {
			l = append(l, k.turned(api.Asinh))
		}
	}
	checkKnown(t, l)
}

func TestKnownOfPowersAndWaves(t *testing.T) {
	t.Parallel()
	const (
		sine, cosine, tangent = "0.8414709848078965066525023216302989996225630607", "0.5403023058681397174009366074429766037323104206", "1.5574077246549022305069748074583601730872507723"
		sinh, cosh, tanh      = "1.1752011936438014568823818505956008151557179813", "1.5430806348152437784779056207570616826015291123", "0.7615941559557648881194582826047935904127685972"
	)
	l := []known{
		{api.Exp, 0, 0, "1", "0"}, {api.Exp, minusZero(), minusZero(), "1", "0"},
		{api.Exp, 1, 0, "2.7182818284590452353602874713526624977572470936", "0"},
		{api.Exp, -1, minusZero(), "0.3678794411714423215955237701614608674458111310", "0"},
		{api.Exp, 1, -1, "1.4686939399158851571389675973266042613269567366", "-2.2873552871788423912081719067005018089555862566"},
	}
	for _, k := range []known{
		{api.Sin, 0, 0, "0", "0"}, {api.Sin, 1, 0, sine, "0"}, {api.Sin, 0, 1, "0", sinh}, {api.Sin, 0, -1, "0", "-" + sinh},
		{api.Tan, 0, 0, "0", "0"}, {api.Tan, 1, 0, tangent, "0"}, {api.Tan, 0, 1, "0", tanh}, {api.Tan, -1, 0, "-" + tangent, "0"},
	} {
		l = append(l, k, k.turned(k.tag+api.Sinh-api.Sin))
	}
	checkKnown(t, append(l,
		known{api.Cos, 0, 0, "1", "0"}, known{api.Cos, 1, 0, cosine, "0"}, known{api.Cos, 0, 1, cosh, "0"},
		known{api.Cosh, 0, 0, "1", "0"}, known{api.Cosh, 1, 0, cosh, "0"}, known{api.Cosh, 0, 1, cosine, "0"}))
}

// In all quadrants the library's own functions of complex numbers lie near what
// is enclosed.
func TestLikeTheLibrary(t *testing.T) {
	functions := map[int]func(complex128) complex128{
		api.Conj: cmplx.Conj, api.Sqrt: cmplx.Sqrt, api.Exp: cmplx.Exp, api.Log: cmplx.Log, api.Sin: cmplx.Sin, api.Cos: cmplx.Cos,
		api.Tan: cmplx.Tan, api.Sinh: cmplx.Sinh, api.Cosh: cmplx.Cosh, api.Tanh: cmplx.Tanh, api.Asin: cmplx.Asin, api.Acos: cmplx.Acos,
		api.Atan: cmplx.Atan, api.Asinh: cmplx.Asinh, api.Acosh: cmplx.Acosh, api.Atanh: cmplx.Atanh,
	}
	values := []float64{-3.25, -1.75, -0.625, 0.375, 1.5, 2.25}
	for tag, function := range functions {
		for _, x := range values {
			for _, y := range values {
				z := words(x, y)
				got, want := enclosed(t, 60, tag, z), function(complex(x, y))
				for i, w := range []float64{real(want), imag(want)} {
					if low, _ := exactly(got[i].Lo).Float64(); math.Abs(low-w) > 1e-12*cmplx.Abs(want) {
						t.Errorf("%s, %d: %s, not %v", showCall(tag, z), i, showSpan(got[i]), w)
					}
				}
			}
		}
	}
}

// Of u and v only what counts plays a part.
func TestOtherWordsPlayNoPart(t *testing.T) {
	for _, tag := range tags() {
		if takesTwo(tag) {
			continue
		}
		want := enclosed(t, 80, tag, api.Four{word(0.75), word(-1.5), 0, 0})
		for _, b := range append(notNumbers(), one, leastSmall) {
			z := api.Four{word(0.75), word(-1.5), b, ^b}
			if got := enclosed(t, 80, tag, z); !sameBoth(got, want) || !part.InReach(tag, z) {
				t.Errorf("%s: %v, not %v", showCall(tag, z), got, want)
			}
		}
	}
}
