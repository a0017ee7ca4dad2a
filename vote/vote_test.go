package vote

import (
	"math"
	"testing"
)

// The numbers of the document, by themselves: the votes.
const (
	unknown = iota
	grounded
	airborne
)

// The ends of what is finite.
const (
	tiny     = 5e-324 // the least number above 0
	greatest = 0x1.fffffffffffffp1023
)

// The oracle: what the document says, by the numbers' bits, which stand in the numbers' order.

// isNaN tells whether x is not a number: all bits of its size are set, and one of its digits.
func isNaN(x float64) bool {
	bits := math.Float64bits(x)
	return bits>>52&0x7FF == 0x7FF && bits&(1<<52-1) != 0
}

// rank is a whole number that is greater for a greater x; 0 and -0 have the same.
func rank(x float64) int64 {
	bits := math.Float64bits(x)
	if bits>>63 == 1 {
		return -int64(bits & math.MaxInt64)
	}
	return int64(bits)
}

// above tells whether x is above y; what is not a number is not.
func above(x, y float64) bool {
	return !isNaN(x) && rank(x) > rank(y)
}

// below tells whether x is below y; what is not a number is not.
func below(x, y float64) bool {
	return !isNaN(x) && rank(x) < rank(y)
}

// air is what P17.1 says of Air.
func air(s Sample) int {
	n := 0
	if above(s.Alt, 2) {
		n++
	}
	if above(s.Speed, 3) {
		n++
	}
	if below(s.Speed, -3) {
		n++
	}
	if above(s.Thrust, 0.25) {
		n++
	}
	return n
}

// ground is what P17.1 says of Ground.
func ground(s Sample) int {
	n := 0
	if below(s.Alt, 1) {
		n++
	}
	if below(s.Speed, 1) {
		if above(s.Speed, -1) {
			n++
		}
	}
	if below(s.Thrust, 0.125) {
		n++
	}
	return n
}

// vote is what P17.2 says of Vote.
func vote(s Sample) int {
	if isNaN(s.Alt) || isNaN(s.Speed) || isNaN(s.Thrust) {
		return unknown
	}
	if n := air(s); n == 2 || n == 3 {
		return airborne
	}
	if ground(s) == 3 {
		return grounded
	}
	return unknown
}

// same tells whether x and y are the same number, or both are none.
func same(x, y float64) bool {
	if isNaN(x) || isNaN(y) {
		return isNaN(x) && isNaN(y)
	}
	return rank(x) == rank(y)
}

// nans are numbers that are not numbers, of either sign, quiet ones and others, of different bits.
func nans() []float64 {
	out := []float64{math.NaN(), -math.NaN()}
	for _, bits := range []uint64{
		0x7FF0000000000001, 0x7FF00000FFFFFFFF, 0x7FF7FFFFFFFFFFFF, 0x7FF8000000000000, 0x7FFFFFFFFFFFFFFF,
		0xFFF0000000000001, 0xFFF00000FFFFFFFF, 0xFFF7FFFFFFFFFFFF, 0xFFF8000000000000, 0xFFFFFFFFFFFFFFFF,
	} {
		out = append(out, math.Float64frombits(bits))
	}
	return out
}

// zeros are 0, and -0.
func zeros() []float64 {
	return []float64{0, math.Copysign(0, -1)}
}

// next is the number next to x, above it.
func next(x float64) float64 {
	return math.Nextafter(x, math.Inf(1))
}

// prior is the number next to x, below it.
func prior(x float64) float64 {
	return math.Nextafter(x, math.Inf(-1))
}

// edges are the numbers that the document names, of all three places, with those next to them, on both sides of 0; and the ends of what is finite, and what is beyond.
func edges() []float64 {
	out := zeros()
	for _, x := range []float64{0.125, 0.25, 1, 2, 3} {
		out = append(out, prior(x), x, next(x), prior(-x), -x, next(-x))
	}
	for _, x := range []float64{tiny, 0.1, 0.2, 0.5, 1.5, 2.5, 10, 1e9, prior(greatest), greatest, math.Inf(1)} {
		out = append(out, x, -x)
	}
	return out
}

// mixed is a number of 64 bits that hangs on seed alone.
func mixed(seed uint64) uint64 {
	seed += 0x9E3779B97F4A7C15
	seed = (seed ^ seed>>30) * 0xBF58476D1CE4E5B9
	seed = (seed ^ seed>>27) * 0x94D049BB133111EB
	return seed ^ seed>>31
}

// mixedNumber is a number that hangs on seed alone: of any bits, or, as often, of many digits and from -wide to wide.
func mixedNumber(seed uint64, wide float64) float64 {
	bits := mixed(seed)
	if bits&1 == 0 {
		return math.Float64frombits(mixed(bits))
	}
	return (float64(bits>>11)*0x1p-52 - 1) * wide
}

// everySample calls f of samples of all edges at all places, of what is not a number at any place beside them, and of mixed ones.
func everySample(f func(s Sample)) {
	numbers := append(edges(), math.NaN(), math.Float64frombits(0xFFF0000000000001))
	for _, alt := range numbers {
		for _, speed := range numbers {
			for _, thrust := range numbers {
				f(Sample{alt, speed, thrust})
			}
		}
	}
	for seed := range uint64(20000) {
		f(Sample{mixedNumber(3*seed, 4), mixedNumber(3*seed+1, 6), mixedNumber(3*seed+2, 0.5)})
	}
}

// checkSigns holds the signs of s against numbers of them.
func checkSigns(t *testing.T, s Sample, wantAir, wantGround int) {
	t.Helper()
	if gotAir, gotGround := Air(s), Ground(s); gotAir != wantAir || gotGround != wantGround {
		t.Errorf("signs of %v: %d of flying, %d of standing, not %d and %d", s, gotAir, gotGround, wantAir, wantGround)
	}
}

// checkVote holds the vote of s against one.
func checkVote(t *testing.T, s Sample, want int) {
	t.Helper()
	if got := Vote(s); got != want {
		t.Errorf("Vote of %v: %d, not %d", s, got, want)
	}
}

// P17.1

func TestVotesAreNumbered(t *testing.T) {
	if got := [3]int{Unknown, Grounded, Airborne}; got != [3]int{0, 1, 2} {
		t.Errorf("the votes: %v", got)
	}
}

// between is a sample that has no sign of either kind.
var between = Sample{1.5, 2, 0.2}

func TestSignsOfHeight(t *testing.T) {
	for _, x := range []struct {
		alt         float64
		air, ground int
	}{
		{prior(1), 0, 1}, {1, 0, 0}, {next(1), 0, 0}, {1.5, 0, 0}, {prior(2), 0, 0}, {2, 0, 0}, {next(2), 1, 0},
		{0, 0, 1}, {math.Copysign(0, -1), 0, 1}, {tiny, 0, 1}, {-tiny, 0, 1}, {0.125, 0, 1}, {0.25, 0, 1},
		// Depth is no height, however great it is.
		{-1, 0, 1}, {-2, 0, 1}, {prior(-2), 0, 1}, {-100, 0, 1}, {-greatest, 0, 1}, {math.Inf(-1), 0, 1},
		{3, 1, 0}, {100, 1, 0}, {greatest, 1, 0}, {math.Inf(1), 1, 0},
	} {
		s := between
		s.Alt = x.alt
		checkSigns(t, s, x.air, x.ground)
	}
}

func TestSignsOfSpeed(t *testing.T) {
	for _, x := range []struct {
		speed       float64
		air, ground int
	}{
		{0, 0, 1}, {tiny, 0, 1}, {0.125, 0, 1}, {0.25, 0, 1}, {0.5, 0, 1}, {prior(1), 0, 1}, {1, 0, 0}, {next(1), 0, 0},
		{2, 0, 0}, {next(2), 0, 0}, {prior(3), 0, 0}, {3, 0, 0}, {next(3), 1, 0}, {4, 1, 0}, {100, 1, 0}, {greatest, 1, 0}, {math.Inf(1), 1, 0},
	} {
		for _, speed := range []float64{x.speed, -x.speed} {
			s := between
			s.Speed = speed
			checkSigns(t, s, x.air, x.ground)
		}
	}
}

func TestSignsOfThrust(t *testing.T) {
	for _, x := range []struct {
		thrust      float64
		air, ground int
	}{
		{prior(0.125), 0, 1}, {0.125, 0, 0}, {next(0.125), 0, 0}, {0.2, 0, 0}, {prior(0.25), 0, 0}, {0.25, 0, 0}, {next(0.25), 1, 0},
		{0, 0, 1}, {math.Copysign(0, -1), 0, 1}, {tiny, 0, 1}, {-tiny, 0, 1},
		// A thrust the other way is none, however great it is.
		{-0.125, 0, 1}, {-0.25, 0, 1}, {prior(-0.25), 0, 1}, {-1, 0, 1}, {-100, 0, 1}, {-greatest, 0, 1}, {math.Inf(-1), 0, 1},
		{0.5, 1, 0}, {1, 1, 0}, {100, 1, 0}, {greatest, 1, 0}, {math.Inf(1), 1, 0},
	} {
		s := between
		s.Thrust = x.thrust
		checkSigns(t, s, x.air, x.ground)
	}
}

func TestSignsAreCountedPlaceByPlace(t *testing.T) {
	// Of each place: a number that is a sign of flying, of standing, and of none.
	alts, speeds, thrusts := [3]float64{3, 0, 1.5}, [3]float64{-4, 0, 2}, [3]float64{0.5, 0, 0.2}
	for a := range 3 {
		for b := range 3 {
			for c := range 3 {
				var n [3]int
				n[a]++
				n[b]++
				n[c]++
				checkSigns(t, Sample{alts[a], speeds[b], thrusts[c]}, n[0], n[1])
			}
		}
	}
}

func TestSignsOfWhatIsBroken(t *testing.T) {
	for _, none := range nans() {
		checkSigns(t, Sample{none, none, none}, 0, 0)
		checkSigns(t, Sample{none, 9, 9}, 2, 0)
		checkSigns(t, Sample{9, none, 9}, 2, 0)
		checkSigns(t, Sample{9, 9, none}, 2, 0)
		checkSigns(t, Sample{none, 0, 0}, 0, 2)
		checkSigns(t, Sample{0, none, 0}, 0, 2)
		checkSigns(t, Sample{0, 0, none}, 0, 2)
		checkSigns(t, Sample{none, none, 9}, 1, 0)
		checkSigns(t, Sample{none, -9, none}, 1, 0)
		checkSigns(t, Sample{0, none, none}, 0, 1)
		checkSigns(t, Sample{9, none, 0}, 1, 1)
	}
}

func TestSignsOfAll(t *testing.T) {
	everySample(func(s Sample) {
		checkSigns(t, s, air(s), ground(s))
	})
}

// P17.2

func TestVoteOfKnown(t *testing.T) {
	for _, x := range []struct {
		s    Sample
		want int
	}{
		{Sample{10, 0, 0.5}, Airborne}, {Sample{0, 0, 0}, Grounded}, {between, Unknown},
		{Sample{10, 10, 1}, Airborne}, {Sample{10, -10, 1}, Airborne}, {Sample{-5, 0.5, -1}, Grounded}, {Sample{2, 3, 0.25}, Unknown}, {Sample{1, 1, 0.125}, Unknown},
	} {
		checkVote(t, x.s, x.want)
	}
}

func TestVoteOfEachNumberOfSigns(t *testing.T) {
	for _, x := range []struct {
		s                 Sample
		air, ground, want int
	}{
		{Sample{1.5, 2, 0.2}, 0, 0, Unknown}, {Sample{0, 2, 0.2}, 0, 1, Unknown}, {Sample{0, 0, 0.2}, 0, 2, Unknown}, {Sample{0, 0, 0}, 0, 3, Grounded},
		{Sample{3, 2, 0.2}, 1, 0, Unknown}, {Sample{3, 0, 0.2}, 1, 1, Unknown}, {Sample{3, 0, 0}, 1, 2, Unknown},
		{Sample{3, 4, 0.2}, 2, 0, Airborne}, {Sample{3, 4, 0}, 2, 1, Airborne},
		{Sample{3, 4, 0.5}, 3, 0, Airborne},
	} {
		checkSigns(t, x.s, x.air, x.ground)
		checkVote(t, x.s, x.want)
	}
}

func TestTwoSignsOfFlyingAreEnough(t *testing.T) {
	for _, s := range []Sample{
		{next(2), next(3), 0}, {next(2), prior(-3), 0}, {next(2), 0, next(0.25)}, {0, next(3), next(0.25)}, {0, prior(-3), next(0.25)},
		{next(2), next(3), 0.25}, {next(2), 3, next(0.25)}, {2, next(3), next(0.25)},
	} {
		checkVote(t, s, Airborne)
	}
	for _, s := range []Sample{
		{2, next(3), 0.25}, {2, prior(-3), 0.25}, {2, 3, next(0.25)}, {2, -3, next(0.25)}, {next(2), 3, 0.25}, {next(2), -3, 0.25},
		{next(2), 0, 0}, {0, next(3), 0}, {0, prior(-3), 0}, {0, 0, next(0.25)},
	} {
		checkVote(t, s, Unknown)
	}
}

func TestAllSignsOfStandingAreAsked(t *testing.T) {
	for _, s := range []Sample{
		{prior(1), prior(1), prior(0.125)}, {prior(1), next(-1), prior(0.125)}, {math.Inf(-1), 0, math.Inf(-1)}, {-greatest, tiny, -greatest},
	} {
		checkVote(t, s, Grounded)
	}
	for _, s := range []Sample{
		{1, 0, 0}, {0, 1, 0}, {0, -1, 0}, {0, 0, 0.125}, {next(1), 0, 0}, {0, next(1), 0}, {0, prior(-1), 0}, {0, 0, next(0.125)},
		{1, 1, 0}, {0, -1, 0.125}, {1, 0, 0.125}, {1, 1, 0.125},
	} {
		checkVote(t, s, Unknown)
	}
}

func TestVoteOfWhatIsBroken(t *testing.T) {
	for _, none := range nans() {
		for _, x := range append(edges(), none) {
			for _, y := range append(edges(), none) {
				checkVote(t, Sample{none, x, y}, Unknown)
				checkVote(t, Sample{x, none, y}, Unknown)
				checkVote(t, Sample{x, y, none}, Unknown)
			}
		}
	}
}

func TestVoteOfAll(t *testing.T) {
	said := [3]int{}
	everySample(func(s Sample) {
		checkVote(t, s, vote(s))
		said[vote(s)]++
	})
	for v, n := range said {
		if n < 1000 {
			t.Errorf("only %d samples say %d", n, v)
		}
	}
}

func TestTurnOfKnown(t *testing.T) {
	for _, x := range []struct{ s, want Sample }{
		{Sample{1, 2, 3}, Sample{1, -2, 3}}, {Sample{1, -2, 3}, Sample{1, 2, 3}}, {Sample{-1, 2, -3}, Sample{-1, -2, -3}},
		{Sample{}, Sample{}}, {Sample{4, 0, 5}, Sample{4, 0, 5}}, {Sample{4, math.Copysign(0, -1), 5}, Sample{4, 0, 5}},
		{Sample{0, tiny, 0}, Sample{0, -tiny, 0}}, {Sample{0, greatest, 0}, Sample{0, -greatest, 0}},
		{Sample{0, math.Inf(1), 0}, Sample{0, math.Inf(-1), 0}}, {Sample{math.Inf(1), math.Inf(-1), math.Inf(-1)}, Sample{math.Inf(1), math.Inf(1), math.Inf(-1)}},
	} {
		if got := Turn(x.s); got != x.want {
			t.Errorf("Turn of %v: %v, not %v", x.s, got, x.want)
		}
	}
}

func TestTurnOfAll(t *testing.T) {
	everySample(func(s Sample) {
		got := Turn(s)
		if !same(got.Alt, s.Alt) || !same(got.Thrust, s.Thrust) {
			t.Errorf("Turn of %v: %v, with another height or thrust", s, got)
		}
		opposite := isNaN(got.Speed)
		if !isNaN(s.Speed) {
			opposite = !isNaN(got.Speed) && rank(got.Speed) == -rank(s.Speed)
		}
		if !opposite {
			t.Errorf("Turn of %v: %v, of which the speed is not the opposite one", s, got)
		}
	})
}

// P17.3

func TestNoSampleSaysBoth(t *testing.T) {
	everySample(func(s Sample) {
		a, g := Air(s), Ground(s)
		// A number is a sign of one kind at most.
		if a < 0 || g < 0 || a+g > 3 {
			t.Errorf("signs of %v: %d of flying, and %d of standing", s, a, g)
		}
		if a >= 2 && g == 3 {
			t.Errorf("%v says both", s)
		}
	})
}

func TestWhichWayACraftMovesDoesNotCount(t *testing.T) {
	everySample(func(s Sample) {
		turned := Turn(s)
		checkSigns(t, turned, Air(s), Ground(s))
		checkVote(t, turned, Vote(s))
		back := Turn(turned)
		if !same(back.Alt, s.Alt) || !same(back.Speed, s.Speed) || !same(back.Thrust, s.Thrust) {
			t.Errorf("%v, turned and turned back: %v", s, back)
		}
	})
}

// finite is x, or, if it is infinite, the finite number that is farthest to its side.
func finite(x float64) float64 {
	switch {
	case isNaN(x):
		return x
	case rank(x) > rank(greatest):
		return greatest
	case rank(x) < -rank(greatest):
		return -greatest
	}
	return x
}

func TestWhatIsInfiniteIsFarBeyondAll(t *testing.T) {
	up, down := math.Inf(1), math.Inf(-1)
	for _, x := range []struct {
		s                 Sample
		air, ground, want int
	}{
		{Sample{up, up, up}, 3, 0, Airborne}, {Sample{up, down, up}, 3, 0, Airborne}, {Sample{down, up, down}, 1, 2, Unknown}, {Sample{down, down, down}, 1, 2, Unknown},
		{Sample{up, 0, up}, 2, 1, Airborne}, {Sample{up, 0, down}, 1, 2, Unknown}, {Sample{down, 0, up}, 1, 2, Unknown}, {Sample{down, 0, down}, 0, 3, Grounded},
		{Sample{up, down, 0}, 2, 1, Airborne}, {Sample{0, up, up}, 2, 1, Airborne}, {Sample{0, down, 0}, 1, 2, Unknown}, {Sample{up, math.NaN(), up}, 2, 0, Unknown},
	} {
		checkSigns(t, x.s, x.air, x.ground)
		checkVote(t, x.s, x.want)
	}
	everySample(func(s Sample) {
		near := Sample{finite(s.Alt), finite(s.Speed), finite(s.Thrust)}
		checkSigns(t, s, Air(near), Ground(near))
		checkVote(t, s, Vote(near))
	})
}

func TestTheSignOfZeroDoesNotCount(t *testing.T) {
	for _, x := range edges() {
		for _, y := range edges() {
			for _, zero := range zeros() {
				for _, pair := range [][2]Sample{
					{{zero, x, y}, {0, x, y}}, {{x, zero, y}, {x, 0, y}}, {{x, y, zero}, {x, y, 0}},
				} {
					checkSigns(t, pair[0], Air(pair[1]), Ground(pair[1]))
					checkVote(t, pair[0], Vote(pair[1]))
				}
			}
		}
	}
}
