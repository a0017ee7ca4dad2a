package fixed

import (
	"math"
	"math/big"
	"testing"

	"dogwatch/api"
)

// The numbers of the document, by themselves.
const (
	degree    = 8192    // steps
	farthest  = 1474560 // steps of 180 degrees
	tiny      = 5e-324  // the least number above 0
	greatest  = 0x1.fffffffffffffp1023
	leastFull = 0x1p-1022 // the least number above 0 that has all its digits
)

// nans are numbers that are not numbers, of either sign, quiet ones and others, of different bits.
func nans() []float64 {
	out := []float64{math.NaN(), -math.NaN()}
	for _, bits := range []uint64{
		0x7FF0000000000001, 0x7FF00000FFFFFFFF, 0x7FF7FFFFFFFFFFFF, 0x7FF8000000000000, 0x7FF8000000000001, 0x7FFFFFFFFFFFFFFF,
		0xFFF0000000000001, 0xFFF00000FFFFFFFF, 0xFFF7FFFFFFFFFFFF, 0xFFF8000000000000, 0xFFF8000000000001, 0xFFFFFFFFFFFFFFFF,
	} {
		out = append(out, math.Float64frombits(bits))
	}
	return out
}

// infinities are both of them.
func infinities() []float64 {
	return []float64{math.Inf(1), math.Inf(-1)}
}

// zeros are 0, and -0.
func zeros() []float64 {
	return []float64{0, math.Copysign(0, -1)}
}

// mixed is a number of 64 bits that hangs on seed alone.
func mixed(seed uint64) uint64 {
	seed += 0x9E3779B97F4A7C15
	seed = (seed ^ seed>>30) * 0xBF58476D1CE4E5B9
	seed = (seed ^ seed>>27) * 0x94D049BB133111EB
	return seed ^ seed>>31
}

// degrees are numbers of many digits, from -180 to 180.
func degrees() []float64 {
	out := []float64{0.1, 0.3, 1.0 / 3, 2.0 / 3, 12.345678, 47.376887, 8.541694, 52.520008, 13.404954, 89.99999999, 90.00000001, 123.456789012345, 179.999999999, math.Pi, math.E, 100 * math.Sqrt2}
	for seed := range uint64(2000) {
		out = append(out, float64(mixed(seed)>>11)*0x1p-53*180)
	}
	for _, x := range out {
		out = append(out, -x)
	}
	return out
}

// finites are numbers of all sizes, with both signs, whatever their bits: the edges, and mixed ones.
func finites() []float64 {
	out := []float64{tiny, 2 * tiny, math.Nextafter(leastFull, 0), leastFull, 1e-300, 1e-9, 0.49, 0.5, 1, 1.5, 2, 89, 90, 91, 179, 180, 181, 359, 360, 8192, 1474560, 1474561, 1 << 31, 1 << 32, 1 << 53, 1 << 62, 1 << 63, 1 << 64, 3e38, 4e38, 1e300, math.Nextafter(greatest, 0), greatest}
	for k := -1074; k <= 1023; k++ {
		out = append(out, math.Ldexp(1, k))
	}
	for seed := range uint64(2000) {
		if x := math.Float64frombits(mixed(seed) & math.MaxInt64); x <= greatest {
			out = append(out, x)
		}
	}
	for _, x := range out {
		out = append(out, -x)
	}
	return out
}

// wrongMosts are whole numbers that are no most, such as come to right ones in fewer bits among them.
func wrongMosts() []int {
	out := []int{-1, -2, -90, -180, -181, 181, 182, 255, 256, 360, 8192, farthest, math.MinInt, math.MinInt + 1, math.MaxInt, math.MaxInt - 1, math.MinInt32, math.MaxInt32, math.MaxUint32}
	for _, most := range []int{0, 1, 90, 180} {
		out = append(out, 256+most, -256+most, 1<<16+most, -1<<16+most, 1<<32+most, -1<<32+most, 1<<62+most, math.MinInt+most, math.MaxInt-most)
	}
	return out
}

// class is what P13.1 says of Class, by the bits of x: a sign, 11 bits of how great it is, and 52 of its digits.
func class(x float64) int {
	bits := math.Float64bits(x)
	negative, size, digits := bits>>63 == 1, bits>>52&0x7FF, bits&(1<<52-1)
	switch {
	case size == 0x7FF && digits != 0:
		return 5
	case size == 0x7FF && negative:
		return 4
	case size == 0x7FF:
		return 3
	case size == 0 && digits == 0:
		return 0
	case negative:
		return 2
	}
	return 1
}

// exact is x, which is finite, as a fraction.
func exact(x float64) *big.Rat {
	return new(big.Rat).SetFloat64(x)
}

// fix is what P13.2 says of Fix, by exact fractions.
func fix(x float64, most int) (int, api.Errno) {
	switch {
	case class(x) == 5:
		return 0, 12
	case class(x) == 3, class(x) == 4, most < 0, most > 180:
		return 0, 13
	}
	far := new(big.Rat).Abs(exact(x))
	if far.Cmp(big.NewRat(int64(most), 1)) > 0 {
		return 0, 13
	}
	// Half a step more, rounded down, is the nearest one, or of two the greater one.
	far.Add(far.Mul(far, big.NewRat(degree, 1)), big.NewRat(1, 2))
	n := int(new(big.Int).Quo(far.Num(), far.Denom()).Int64())
	if x < 0 {
		return -n, 0
	}
	return n, 0
}

// checkFix holds Fix of x and most against a number of steps and an error.
func checkFix(t *testing.T, x float64, most, want int, wantErr api.Errno) {
	t.Helper()
	if got, err := Fix(x, most); got != want || err != wantErr {
		t.Errorf("Fix of %v, %d: %d, %d, not %d, %d", x, most, got, err, want, wantErr)
	}
}

// checkFixed holds Fix of x and most against the exact one.
func checkFixed(t *testing.T, x float64, most int) {
	t.Helper()
	want, err := fix(x, most)
	checkFix(t, x, most, want, err)
}

// P13.1

func TestClassesAreNumbered(t *testing.T) {
	got := [6]int{Zero, Positive, Negative, Infinite, Minus, NaN}
	if got != [6]int{0, 1, 2, 3, 4, 5} {
		t.Errorf("the classes: %v", got)
	}
}

func TestClassOfKnown(t *testing.T) {
	for _, x := range []struct {
		x    float64
		want int
	}{
		{0, Zero}, {math.Copysign(0, -1), Zero},
		{1, Positive}, {0.5, Positive}, {180, Positive}, {tiny, Positive}, {leastFull, Positive}, {greatest, Positive},
		{-1, Negative}, {-0.5, Negative}, {-180, Negative}, {-tiny, Negative}, {-leastFull, Negative}, {-greatest, Negative},
		{math.Inf(1), Infinite}, {math.Inf(-1), Minus}, {math.NaN(), NaN},
	} {
		if got := Class(x.x); got != x.want {
			t.Errorf("Class of %v: %d, not %d", x.x, got, x.want)
		}
	}
}

func TestClassOfAllKinds(t *testing.T) {
	for _, l := range [][]float64{nans(), infinities(), zeros(), finites(), degrees()} {
		for _, x := range l {
			if got := Class(x); got != class(x) {
				t.Errorf("Class of %v, of the bits %x: %d, not %d", x, math.Float64bits(x), got, class(x))
			}
		}
	}
}

// P13.2

func TestFixOfKnown(t *testing.T) {
	for _, x := range []struct {
		x    float64
		most int
		want int
	}{
		{0.5, 90, 4096}, {-0.5, 90, -4096}, {0.25, 1, 2048}, {1.5, 90, 12288}, {-89.5, 90, -733184}, {179.5, 180, 1470464},
		{1, 1, 8192}, {-1, 1, -8192}, {2, 90, 16384}, {45, 90, 368640}, {90, 90, 737280}, {-90, 90, -737280}, {180, 180, 1474560}, {-180, 180, -1474560},
		{0.1, 90, 819}, {-0.1, 90, -819}, {12.345678, 90, 101136}, {47.376887, 90, 388111}, {-8.541694, 180, -69974}, {123.456789012345, 180, 1011358},
		{1.0 / degree, 90, 1}, {-1.0 / degree, 90, -1}, {0.49 / degree, 90, 0}, {-0.49 / degree, 90, 0}, {0.51 / degree, 90, 1}, {-0.51 / degree, 90, -1},
	} {
		checkFix(t, x.x, x.most, x.want, api.OK)
	}
}

func TestFixOfWholeDegrees(t *testing.T) {
	for d := -180; d <= 180; d++ {
		checkFix(t, float64(d), 180, d*degree, api.OK)
		if d < 180 {
			checkFix(t, float64(d)+0.5, 180, d*degree+degree/2, api.OK)
		}
	}
}

func TestFixOfZeros(t *testing.T) {
	for _, x := range zeros() {
		for most := range 181 {
			checkFix(t, x, most, 0, api.OK)
		}
	}
}

func TestFixOfNone(t *testing.T) {
	for _, x := range nans() {
		for most := range 181 {
			checkFix(t, x, most, 0, api.ErrNaN)
		}
		for _, most := range wrongMosts() {
			checkFix(t, x, most, 0, api.ErrNaN)
		}
	}
}

func TestFixOfInfinities(t *testing.T) {
	for _, x := range infinities() {
		for most := range 181 {
			checkFix(t, x, most, 0, api.ErrRange)
		}
		for _, most := range wrongMosts() {
			checkFix(t, x, most, 0, api.ErrRange)
		}
	}
}

func TestFixAtEachMost(t *testing.T) {
	for most := range 181 {
		edge := float64(most)
		checkFix(t, edge, most, most*degree, api.OK)
		checkFix(t, -edge, most, -most*degree, api.OK)
		for _, beyond := range []float64{math.Nextafter(edge, 1000), edge + 0.5/degree, edge + 1, 2*edge + 1, greatest} {
			checkFix(t, beyond, most, 0, api.ErrRange)
			checkFix(t, -beyond, most, 0, api.ErrRange)
		}
		if most > 0 {
			within := math.Nextafter(edge, 0)
			checkFix(t, within, most, most*degree, api.OK)
			checkFix(t, -within, most, -most*degree, api.OK)
		}
	}
}

func TestFixOfWrongMosts(t *testing.T) {
	for _, most := range wrongMosts() {
		edge := float64(most)
		for _, x := range []float64{0, math.Copysign(0, -1), tiny, -tiny, 0.5, -0.5, 1, -1, 90, -90, 180, -180, 181, -181, edge, -edge, greatest, -greatest} {
			checkFix(t, x, most, 0, api.ErrRange)
		}
	}
}

func TestFixOfLeastAndGreatest(t *testing.T) {
	for _, x := range []float64{tiny, -tiny, leastFull, -leastFull} {
		checkFix(t, x, 0, 0, api.ErrRange)
		checkFix(t, x, 1, 0, api.OK)
		checkFix(t, x, 180, 0, api.OK)
	}
	for _, x := range []float64{greatest, -greatest} {
		checkFix(t, x, 0, 0, api.ErrRange)
		checkFix(t, x, 180, 0, api.ErrRange)
	}
}

func TestFixOfAllKinds(t *testing.T) {
	for _, l := range [][]float64{finites(), degrees()} {
		for _, x := range l {
			for _, most := range []int{0, 1, 2, 45, 89, 90, 91, 179, 180} {
				checkFixed(t, x, most)
			}
		}
	}
}

func TestFixOfAllHalves(t *testing.T) {
	for n := range farthest {
		half := (float64(n) + 0.5) / degree
		less, more := math.Nextafter(half, 0), math.Nextafter(half, 1000)
		checkFix(t, half, 180, n+1, api.OK)
		checkFix(t, -half, 180, -n-1, api.OK)
		checkFix(t, less, 180, n, api.OK)
		checkFix(t, -less, 180, -n, api.OK)
		checkFix(t, more, 180, n+1, api.OK)
		checkFix(t, -more, 180, -n-1, api.OK)
		if t.Failed() {
			// One half is told, not a million of them.
			return
		}
	}
}

// P13.3

func TestBackOfKnown(t *testing.T) {
	for _, x := range []struct {
		n    int
		want float64
	}{
		{0, 0}, {4096, 0.5}, {-4096, -0.5}, {8192, 1}, {-8192, -1}, {1, 0.0001220703125}, {-1, -0.0001220703125}, {819, 0.0999755859375},
		{737280, 90}, {-737280, -90}, {737281, 90.0001220703125}, {-737281, -90.0001220703125},
		{1474559, 179.9998779296875}, {-1474559, -179.9998779296875}, {1474560, 180}, {-1474560, -180},
		{1474561, 0}, {-1474561, 0}, {1474562, 0}, {-1474562, 0}, {2 * farthest, 0}, {-2 * farthest, 0},
		{math.MaxInt, 0}, {math.MinInt, 0}, {math.MaxInt - 1, 0}, {math.MinInt + 1, 0}, {math.MaxInt32, 0}, {math.MinInt32, 0},
	} {
		if got := Back(x.n); got != x.want {
			t.Errorf("Back of %d: %v, not %v", x.n, got, x.want)
		}
	}
}

func TestBackOfAllIsExact(t *testing.T) {
	for n := -farthest; n <= farthest; n++ {
		if got := Back(n); got != math.Ldexp(float64(n), -13) {
			t.Fatalf("Back of %d: %v", n, got)
		}
		if n%1009 == 0 && exact(Back(n)).Cmp(big.NewRat(int64(n), degree)) != 0 {
			t.Fatalf("Back of %d is not exact: %v", n, Back(n))
		}
	}
}

func TestBackOfWrongNumbers(t *testing.T) {
	for n := range 10000 {
		for _, wrong := range []int{farthest + 1 + n, -farthest - 1 - n, math.MaxInt - n, math.MinInt + n, 1<<31 + n, -1<<31 - n, 1<<32 + n, -1<<32 - n, 1<<53 + n, 1<<62 + n} {
			if got := Back(wrong); got != 0 {
				t.Fatalf("Back of %d: %v", wrong, got)
			}
		}
	}
}

// P13.4

func TestFixedIsAtMostHalfAStepAway(t *testing.T) {
	half := big.NewRat(1, 2*degree)
	for _, l := range [][]float64{zeros(), finites(), degrees()} {
		for _, x := range l {
			n, err := Fix(x, 180)
			if math.Abs(x) > 180 {
				continue
			}
			away := exact(x)
			if away.Abs(away.Sub(away, exact(Back(n)))); err != api.OK || away.Cmp(half) > 0 {
				t.Errorf("Fix of %v: %d, %d, which is %v away", x, n, err, away)
			}
		}
	}
}

func TestBackIsFixedAsItWas(t *testing.T) {
	for n := -farthest; n <= farthest; n++ {
		if got, err := Fix(Back(n), 180); got != n || err != api.OK {
			t.Fatalf("Fix of Back of %d: %d, %d", n, got, err)
		}
		if got, err := Fix(Back(n), 90); n >= -90*degree && n <= 90*degree && (got != n || err != api.OK) {
			t.Fatalf("Fix of Back of %d within 90: %d, %d", n, got, err)
		}
	}
}

func TestFixedIsBackAsItIsFixed(t *testing.T) {
	for _, x := range degrees() {
		n, _ := Fix(x, 180)
		if again, err := Fix(Back(n), 180); again != n || err != api.OK {
			t.Errorf("Fix of %v, back and fixed anew: %d, %d, not %d", x, again, err, n)
		}
	}
}
