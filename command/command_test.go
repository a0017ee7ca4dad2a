package command

import (
	"math"
	"testing"

	"dogwatch/api"
	"dogwatch/state"
)

// The numbers of the document, by themselves: the modes, the errors, and how far a home may be from 0, in steps.
const (
	idle = iota
	manual
	hover
	auto
	back
	land
)

const (
	argError    = 1
	nanError    = 12
	rangeError  = 13
	modeError   = 20
	armedError  = 21
	unarmError  = 22
	homeError   = 23
	sensorError = 24
)

const (
	northmost = 737280
	eastmost  = 1474560
)

// The oracle: what the document says, sentence by sentence.

// way is what the document says of the ways between modes: a row from each mode.
func way(from, to int) bool {
	if from < 0 || from > 5 || to < 0 || to > 5 {
		return false
	}
	return [6]string{
		"yy----",
		"yyyyyy",
		"-yyyyy",
		"-yyyyy",
		"-yy-yy",
		"yy---y",
	}[from][to] == 'y'
}

// needs is how many sensors have to be sound in a mode.
func needs(mode int) int {
	switch mode {
	case manual, land:
		return 1
	case hover, back:
		return 2
	case auto:
		return 3
	}
	return 0
}

// asksHome tells whether a mode asks for a home.
func asksHome(mode int) bool {
	return mode == auto || mode == back
}

// isolated tells whether a sensor is isolated, by halving.
func isolated(s state.State, sensor int) bool {
	n := s.Iso
	for range sensor {
		n /= 2
	}
	return n%2 == 1
}

// sound is how many sensors are not isolated.
func sound(s state.State) int {
	out := 0
	for sensor := range 4 {
		if !isolated(s, sensor) {
			out++
		}
	}
	return out
}

// fits is what P16.1 says of Fits.
func fits(s state.State) bool {
	if s.Armed != (s.Mode >= manual && s.Mode <= land) {
		return false
	}
	if asksHome(s.Mode) && !s.Home {
		return false
	}
	return sound(s) >= needs(s.Mode)
}

// steps is how many steps so many degrees are, which are within 180: the nearest number, of two the one that is farther from 0.
func steps(x float64) int {
	// Below 2 to the 21st the product, and its distance from the number below it, are exact.
	far := math.Abs(x) * 8192
	out := int(far)
	if far-float64(out) >= 0.5 {
		out++
	}
	if x < 0 {
		return -out
	}
	return out
}

// degreesError is the error of so many degrees, which have to be within most.
func degreesError(x, most float64) api.Errno {
	if math.IsNaN(x) {
		return nanError
	}
	if math.IsInf(x, 0) || math.Abs(x) > most {
		return rangeError
	}
	return 0
}

// after is what P16.2 says of Delta.
func after(s state.State, c Command) (state.State, api.Errno) {
	switch c.Kind {
	case 1:
		return afterGo(s, c.N)
	case 2:
		if s.Armed {
			return s, armedError
		}
		if sound(s) < 2 {
			return s, sensorError
		}
		return state.State{Mode: manual, Armed: true, Home: s.Home, Lat: s.Lat, Lon: s.Lon, Iso: s.Iso}, 0
	case 3:
		if !s.Armed {
			return s, unarmError
		}
		if s.Mode != manual && s.Mode != land {
			return s, modeError
		}
		return state.State{Mode: idle, Armed: false, Home: s.Home, Lat: s.Lat, Lon: s.Lon, Iso: s.Iso}, 0
	case 4:
		if err := degreesError(c.Lat, 90); err != 0 {
			return s, err
		}
		if err := degreesError(c.Lon, 180); err != 0 {
			return s, err
		}
		return state.State{Mode: s.Mode, Armed: s.Armed, Home: true, Lat: steps(c.Lat), Lon: steps(c.Lon), Iso: s.Iso}, 0
	case 5, 6:
		return afterSensor(s, c)
	}
	return s, argError
}

// afterGo is what P16.2 says of Go.
func afterGo(s state.State, mode int) (state.State, api.Errno) {
	if !way(s.Mode, mode) {
		return s, modeError
	}
	if !s.Armed && mode != idle {
		return s, unarmError
	}
	if s.Armed && mode == idle {
		return s, armedError
	}
	if asksHome(mode) && !s.Home {
		return s, homeError
	}
	if sound(s) < needs(mode) {
		return s, sensorError
	}
	return state.State{Mode: mode, Armed: s.Armed, Home: s.Home, Lat: s.Lat, Lon: s.Lon, Iso: s.Iso}, 0
}

// afterSensor is what P16.2 says of Isolate and of Restore.
func afterSensor(s state.State, c Command) (state.State, api.Errno) {
	if c.N < 0 || c.N > 3 {
		return s, argError
	}
	weight := [4]int{1, 2, 4, 8}[c.N]
	out := s
	switch {
	case c.Kind == 6 && isolated(s, c.N):
		out.Iso -= weight
	case c.Kind == 5 && !isolated(s, c.N):
		if sound(s)-1 < needs(s.Mode) {
			return s, sensorError
		}
		out.Iso += weight
	}
	return out, 0
}

// The inputs.

// mixed is a number of 64 bits that hangs on seed alone.
func mixed(seed uint64) uint64 {
	seed += 0x9E3779B97F4A7C15
	seed = (seed ^ seed>>30) * 0xBF58476D1CE4E5B9
	seed = (seed ^ seed>>27) * 0x94D049BB133111EB
	return seed ^ seed>>31
}

// states are legal ones of each mode, armed or not, with each set of isolated sensors, without a home and with some homes.
func states() []state.State {
	var out []state.State
	for first := range 6 * 2 * 16 {
		bare := state.State{Mode: first % 6, Armed: first/6%2 == 1, Iso: first / 12}
		out = append(out, bare)
		for _, p := range [][2]int{{0, 0}, {3, 4}, {-389000, 70001}, {northmost, -eastmost}, {-northmost, eastmost}} {
			s := bare
			s.Home, s.Lat, s.Lon = true, p[0], p[1]
			out = append(out, s)
		}
	}
	return out
}

// far are whole numbers that are no kind, no mode and no sensor, and such as come to right ones in fewer bits, or without their sign.
func far() []int {
	out := []int{-1, -2, -3, -4, -5, -6, -7, -8, 7, 8, 9, 10, 12, 15, 16, 31, 32, 63, 64, 65, 127, 128, 255, -128, 1000, -1000, math.MaxInt, math.MaxInt - 1, math.MinInt, math.MinInt + 1, math.MaxInt32, math.MinInt32, math.MaxUint32, math.MaxInt16, math.MinInt16, math.MaxUint16}
	for n := range 7 {
		for _, bits := range []int{3, 6, 8, 16, 32, 48, 62} {
			out = append(out, 1<<bits+n, -1<<bits+n, -1<<bits-n)
		}
		out = append(out, math.MinInt+n, math.MaxInt-n)
	}
	return out
}

// wrongDegrees are numbers that are never so many degrees: none at all, infinite, and out of all ranges.
func wrongDegrees() []float64 {
	return []float64{
		math.NaN(), -math.NaN(), math.Float64frombits(0x7FF0000000000001), math.Float64frombits(0xFFFFFFFFFFFFFFFF),
		math.Inf(1), math.Inf(-1), math.MaxFloat64, -math.MaxFloat64, 1e9, -1e9, 500, -500, 181, -181,
		math.Nextafter(180, 181), math.Nextafter(-180, -181),
	}
}

// edgeDegrees are numbers at the edges, and next to them: 0, halves of steps, 90 and 180, on both sides.
func edgeDegrees() []float64 {
	out := []float64{0, math.Copysign(0, -1)}
	for _, x := range []float64{0.5 / 8192, 1.0 / 8192, 1.5 / 8192, 0.5, 1, 45, 89, 90 - 0.5/8192, 90 - 1.0/8192, 90, 90 + 0.5/8192, 90 + 1.0/8192, 91, 179, 180 - 0.5/8192, 180 - 1.0/8192, 180, 180 + 0.5/8192, 180 + 1.0/8192, 181} {
		for _, y := range []float64{x, math.Nextafter(x, 0), math.Nextafter(x, 360)} {
			out = append(out, y, -y)
		}
	}
	return append(out, math.SmallestNonzeroFloat64, -math.SmallestNonzeroFloat64)
}

// commands are commands of each kind, and of none, with what counts of them, and with what does not.
func commands() []Command {
	out := []Command{
		{Kind: Home}, {Kind: Home, Lat: 0.5, Lon: -1}, {Kind: Home, Lat: -90, Lon: 180}, {Kind: Home, Lat: 47.376887, Lon: 8.541694, N: 7},
		{Kind: Home, Lat: 91}, {Kind: Home, Lon: 181}, {Kind: Home, Lat: math.NaN(), Lon: 200}, {Kind: Home, Lat: 91, Lon: math.NaN()},
		{Kind: Home, Lat: 1, Lon: math.NaN()}, {Kind: Home, Lat: math.Inf(-1), Lon: 1},
	}
	for kind := -2; kind <= 9; kind++ {
		for n := -2; n <= 9; n++ {
			out = append(out, Command{Kind: kind, N: n})
		}
		for _, n := range []int{math.MaxInt, math.MinInt, 1 << 32, 1<<32 + 1, 1<<62 + 2, math.MinInt + 3} {
			out = append(out, Command{Kind: kind, N: n})
		}
	}
	return out
}

// check holds Delta of s and c against what the document says; it tells whether they are alike.
func check(t *testing.T, s state.State, c Command) bool {
	t.Helper()
	got, err := Delta(s, c)
	want, wantErr := after(s, c)
	if got != want || err != wantErr {
		t.Errorf("Delta(%+v, %+v) = %+v, %d; want %+v, %d", s, c, got, err, want, wantErr)
		return false
	}
	if err != 0 && got != s {
		t.Errorf("Delta(%+v, %+v) = %+v, beside the error %d", s, c, got, err)
		return false
	}
	return true
}

// checkAll holds Delta of a command, and of each state, against what the document says.
func checkAll(t *testing.T, c Command) {
	t.Helper()
	for _, s := range states() {
		if !check(t, s, c) {
			return
		}
	}
}

// known is a state, a command, and what comes of it, as it is written out in a test.
type known struct {
	s    state.State
	c    Command
	want state.State
	err  api.Errno
}

// checkKnown holds Delta against what is written out, and the oracle, too.
func checkKnown(t *testing.T, l []known) {
	t.Helper()
	for i, x := range l {
		if got, err := Delta(x.s, x.c); got != x.want || err != x.err {
			t.Errorf("%d: Delta(%+v, %+v) = %+v, %d; want %+v, %d", i, x.s, x.c, got, err, x.want, x.err)
		}
		check(t, x.s, x.c)
	}
}

// refused is what comes of a command that is refused.
func refused(s state.State, c Command, err api.Errno) known {
	return known{s, c, s, err}
}

// flying is a state that is armed, in a mode, with these sensors isolated, without a home.
func flying(mode, iso int) state.State {
	return state.State{Mode: mode, Armed: true, Iso: iso}
}

// standing is a state that is not armed, in a mode, with these sensors isolated, without a home.
func standing(mode, iso int) state.State {
	return state.State{Mode: mode, Iso: iso}
}

// homed is s with a home.
func homed(s state.State) state.State {
	s.Home, s.Lat, s.Lon = true, -8, 9
	return s
}

func TestKindsAndErrorsAreNumbered(t *testing.T) {
	if got := [6]int{Go, Arm, Disarm, Home, Isolate, Restore}; got != [6]int{1, 2, 3, 4, 5, 6} {
		t.Errorf("the kinds: %v", got)
	}
	// As the document writes them, they are constants of no type of their own.
	if x := [...]float64{Go, Arm, Disarm, Home, Isolate, Restore}; x != [6]float64{1, 2, 3, 4, 5, 6} {
		t.Errorf("the kinds, as other numbers: %v", x)
	}
	got := [8]api.Errno{api.ErrArg, api.ErrNaN, api.ErrRange, api.ErrMode, api.ErrArmed, api.ErrUnarm, api.ErrHome, api.ErrSensor}
	if got != [8]api.Errno{argError, nanError, rangeError, modeError, armedError, unarmError, homeError, sensorError} {
		t.Errorf("the errors: %v", got)
	}
}

// P16.1

func TestFitsOfKnown(t *testing.T) {
	for i, x := range []struct {
		s    state.State
		want bool
	}{
		{state.State{}, true},
		{standing(idle, 15), true},
		{homed(standing(idle, 0)), true},
		{flying(idle, 0), false},
		{standing(manual, 0), false},
		{standing(hover, 0), false},
		{homed(standing(auto, 0)), false},
		{homed(standing(back, 0)), false},
		{standing(land, 0), false},
		{flying(manual, 0), true},
		{flying(manual, 7), true},
		{flying(manual, 15), false},
		{flying(hover, 12), true},
		{flying(hover, 14), false},
		{flying(auto, 0), false},
		{homed(flying(auto, 0)), true},
		{homed(flying(auto, 8)), true},
		{homed(flying(auto, 9)), false},
		{flying(back, 0), false},
		{homed(flying(back, 0)), true},
		{homed(flying(back, 6)), true},
		{homed(flying(back, 7)), false},
		{flying(land, 0), true},
		{flying(land, 11), true},
		{flying(land, 15), false},
		{state.State{Mode: auto, Armed: true, Home: true}, true},
	} {
		if Fits(x.s) != x.want {
			t.Errorf("%d: Fits(%+v) = %v", i, x.s, !x.want)
		}
	}
}

func TestFitsOfAll(t *testing.T) {
	for _, s := range states() {
		if Fits(s) != fits(s) {
			t.Errorf("Fits(%+v) = %v", s, Fits(s))
		}
	}
}

func TestFitsOfEachNumberOfSoundSensors(t *testing.T) {
	for mode, least := range [6]int{0, 1, 2, 3, 2, 1} {
		for iso := range 16 {
			s := homed(state.State{Mode: mode, Armed: mode != idle, Iso: iso})
			if Fits(s) != (sound(s) >= least) {
				t.Errorf("Fits(%+v) = %v, of %d sound sensors", s, Fits(s), sound(s))
			}
		}
	}
}

// P16.2

func TestDeltaOfAll(t *testing.T) {
	for _, c := range commands() {
		checkAll(t, c)
	}
}

func TestDeltaOfKindsThatAreNone(t *testing.T) {
	for _, kind := range append(far(), 0) {
		for _, c := range []Command{{Kind: kind}, {Kind: kind, N: 1}, {Kind: kind, N: -1, Lat: 1, Lon: 1}, {Kind: kind, N: math.MinInt, Lat: math.NaN(), Lon: math.NaN()}} {
			for _, s := range states() {
				if got, err := Delta(s, c); got != s || err != argError {
					t.Fatalf("Delta(%+v, %+v) = %+v, %d", s, c, got, err)
				}
			}
		}
	}
}

func TestDeltaOfWhatDoesNotCount(t *testing.T) {
	for _, c := range []Command{{Kind: Go, N: hover}, {Kind: Go, N: idle}, {Kind: Go, N: 6}, {Kind: Arm}, {Kind: Disarm}, {Kind: Isolate, N: 2}, {Kind: Isolate, N: 4}, {Kind: Restore, N: 2}, {Kind: Restore, N: -1}} {
		for _, x := range wrongDegrees() {
			c.Lat, c.Lon = x, -x
			checkAll(t, c)
		}
	}
	for _, n := range append(far(), 0, 1, 2, 3, 4, 5, 6) {
		checkAll(t, Command{Kind: Arm, N: n})
		checkAll(t, Command{Kind: Disarm, N: n})
		checkAll(t, Command{Kind: Home, N: n, Lat: 12.5, Lon: -99.25})
	}
}

func TestDeltaIsTheSameEachTime(t *testing.T) {
	// Were the order of a map to be seen, one of many calls alike would tell another error.
	for _, c := range []Command{{Kind: Go, N: auto}, {Kind: Go, N: idle}, {Kind: Arm}, {Kind: Disarm}, {Kind: Home, Lat: math.NaN(), Lon: 200}, {Kind: Isolate, N: 1}} {
		for range 20 {
			checkAll(t, c)
		}
	}
}

func TestGoOfKnown(t *testing.T) {
	to := func(mode int) Command { return Command{Kind: Go, N: mode} }
	checkKnown(t, []known{
		refused(standing(idle, 0), to(auto), modeError),
		refused(standing(idle, 0), to(manual), unarmError),
		{flying(manual, 0), to(hover), flying(hover, 0), 0},
		{flying(manual, 0), to(land), flying(land, 0), 0},
		refused(flying(manual, 0), to(auto), homeError),
		refused(flying(manual, 0), to(back), homeError),
		{homed(flying(manual, 0)), to(auto), homed(flying(auto, 0)), 0},
		{homed(flying(manual, 1)), to(auto), homed(flying(auto, 1)), 0},
		refused(homed(flying(manual, 3)), to(auto), sensorError),
		{homed(flying(manual, 3)), to(back), homed(flying(back, 3)), 0},
		refused(homed(flying(manual, 11)), to(back), sensorError),
		{flying(manual, 10), to(hover), flying(hover, 10), 0},
		refused(flying(manual, 14), to(hover), sensorError),
		{flying(hover, 7), to(manual), flying(manual, 7), 0},
		refused(flying(hover, 15), to(manual), sensorError),
		refused(flying(hover, 15), to(land), sensorError),
		refused(homed(flying(back, 0)), to(auto), modeError),
		{homed(flying(auto, 0)), to(back), homed(flying(back, 0)), 0},
		refused(flying(land, 0), to(hover), modeError),
		{flying(land, 0), to(manual), flying(manual, 0), 0},
	})
}

func TestGoToTheModeThatItIsInAlready(t *testing.T) {
	for mode := range 6 {
		c := Command{Kind: Go, N: mode}
		fit := homed(state.State{Mode: mode, Armed: mode != idle})
		checkKnown(t, []known{{fit, c, fit, 0}})
		checkAll(t, c)
	}
	checkKnown(t, []known{
		refused(flying(idle, 0), Command{Kind: Go, N: idle}, armedError),
		refused(standing(hover, 0), Command{Kind: Go, N: hover}, unarmError),
		refused(flying(auto, 0), Command{Kind: Go, N: auto}, homeError),
		refused(homed(flying(auto, 5)), Command{Kind: Go, N: auto}, sensorError),
		refused(flying(back, 0), Command{Kind: Go, N: back}, homeError),
		refused(flying(hover, 7), Command{Kind: Go, N: hover}, sensorError),
		refused(flying(land, 15), Command{Kind: Go, N: land}, sensorError),
	})
}

func TestGoToIdle(t *testing.T) {
	c := Command{Kind: Go, N: idle}
	checkKnown(t, []known{
		{standing(idle, 0), c, standing(idle, 0), 0},
		{standing(idle, 15), c, standing(idle, 15), 0},
		{standing(manual, 0), c, standing(idle, 0), 0},
		{homed(standing(land, 15)), c, homed(standing(idle, 15)), 0},
		refused(flying(idle, 0), c, armedError),
		refused(flying(manual, 0), c, armedError),
		refused(flying(land, 0), c, armedError),
		refused(flying(hover, 0), c, modeError),
		refused(flying(auto, 0), c, modeError),
		refused(flying(back, 0), c, modeError),
		refused(standing(hover, 0), c, modeError),
		refused(standing(auto, 0), c, modeError),
		refused(standing(back, 0), c, modeError),
	})
}

func TestGoToNoMode(t *testing.T) {
	for _, n := range append(far(), 6) {
		for _, s := range states() {
			c := Command{Kind: Go, N: n}
			if got, err := Delta(s, c); got != s || err != modeError {
				t.Fatalf("Delta(%+v, %+v) = %+v, %d", s, c, got, err)
			}
		}
	}
}

func TestGoTellsTheFirstError(t *testing.T) {
	to := func(mode int) Command { return Command{Kind: Go, N: mode} }
	checkKnown(t, []known{
		// There is no way, and each of the other things is wrong, too.
		refused(standing(idle, 0), to(hover), modeError),
		refused(flying(hover, 0), to(idle), modeError),
		refused(flying(idle, 0), to(auto), modeError),
		refused(homed(flying(idle, 15)), to(auto), modeError),
		refused(standing(idle, 15), to(auto), modeError),
		refused(flying(land, 15), to(back), modeError),
		// It is not armed, and there is no home, or too few sensors are sound.
		refused(standing(manual, 0), to(auto), unarmError),
		refused(homed(standing(manual, 15)), to(auto), unarmError),
		refused(standing(manual, 15), to(back), unarmError),
		refused(standing(idle, 15), to(manual), unarmError),
		refused(standing(hover, 15), to(hover), unarmError),
		// Idle asks for no home and no sensors.
		refused(flying(manual, 15), to(idle), armedError),
		// There is no home, and too few sensors are sound.
		refused(flying(manual, 15), to(auto), homeError),
		refused(flying(manual, 3), to(auto), homeError),
		refused(flying(hover, 7), to(back), homeError),
		// Only the sensors are wrong.
		refused(homed(flying(hover, 7)), to(back), sensorError),
	})
}

func TestArm(t *testing.T) {
	c := Command{Kind: Arm}
	checkKnown(t, []known{
		{standing(idle, 0), c, flying(manual, 0), 0},
		{standing(idle, 8), c, flying(manual, 8), 0},
		{standing(idle, 3), c, flying(manual, 3), 0},
		{standing(idle, 12), c, flying(manual, 12), 0},
		refused(standing(idle, 7), c, sensorError),
		refused(standing(idle, 14), c, sensorError),
		refused(standing(idle, 15), c, sensorError),
		{homed(standing(idle, 0)), c, homed(flying(manual, 0)), 0},
		{standing(manual, 0), c, flying(manual, 0), 0},
		{standing(hover, 0), c, flying(manual, 0), 0},
		{standing(auto, 1), c, flying(manual, 1), 0},
		{standing(land, 9), c, flying(manual, 9), 0},
		refused(flying(idle, 0), c, armedError),
		refused(flying(manual, 0), c, armedError),
		refused(homed(flying(auto, 0)), c, armedError),
		refused(flying(land, 7), c, armedError),
		refused(flying(manual, 15), c, armedError),
	})
	for iso := range 16 {
		s := standing(idle, iso)
		want := known{s, c, flying(manual, iso), 0}
		if sound(s) < 2 {
			want = refused(s, c, sensorError)
		}
		checkKnown(t, []known{want})
	}
}

func TestDisarm(t *testing.T) {
	c := Command{Kind: Disarm}
	checkKnown(t, []known{
		{flying(manual, 0), c, standing(idle, 0), 0},
		{flying(land, 0), c, standing(idle, 0), 0},
		{flying(manual, 15), c, standing(idle, 15), 0},
		{homed(flying(land, 7)), c, homed(standing(idle, 7)), 0},
		refused(flying(idle, 0), c, modeError),
		refused(flying(hover, 0), c, modeError),
		refused(flying(auto, 0), c, modeError),
		refused(flying(back, 0), c, modeError),
		refused(standing(idle, 0), c, unarmError),
		refused(standing(manual, 0), c, unarmError),
		refused(standing(land, 0), c, unarmError),
		// It is not armed, and the mode is wrong.
		refused(standing(hover, 0), c, unarmError),
		refused(standing(auto, 0), c, unarmError),
		refused(standing(back, 15), c, unarmError),
	})
}

func TestHomeOfKnown(t *testing.T) {
	at := func(lat, lon float64) Command { return Command{Kind: Home, Lat: lat, Lon: lon} }
	to := func(lat, lon int) state.State { return state.State{Home: true, Lat: lat, Lon: lon} }
	zero, away := state.State{}, state.State{Home: true, Lat: -8, Lon: 9}
	minus := math.Copysign(0, -1)
	checkKnown(t, []known{
		{zero, at(0, 0), to(0, 0), 0},
		{zero, at(minus, minus), to(0, 0), 0},
		{away, at(0, 0), to(0, 0), 0},
		{away, at(minus, 1), to(0, 8192), 0},
		{zero, at(0.5, -1), to(4096, -8192), 0},
		{zero, at(-1, 0.5), to(-8192, 4096), 0},
		{away, at(90, 180), to(northmost, eastmost), 0},
		{away, at(-90, -180), to(-northmost, -eastmost), 0},
		{zero, at(90, -180), to(northmost, -eastmost), 0},
		{zero, at(math.Nextafter(90, 0), math.Nextafter(180, 0)), to(northmost, eastmost), 0},
		{zero, at(math.Nextafter(-90, 0), math.Nextafter(-180, 0)), to(-northmost, -eastmost), 0},
		{zero, at(math.Nextafter(0, 1), math.Nextafter(0, -1)), to(0, 0), 0},
		{zero, at(0.5/8192, -0.5/8192), to(1, -1), 0},
		{zero, at(math.Nextafter(0.5/8192, 0), math.Nextafter(-0.5/8192, 0)), to(0, 0), 0},
		{zero, at(0, 90.5), to(0, 741376), 0},
		refused(away, at(math.Nextafter(90, 91), 0), rangeError),
		refused(away, at(math.Nextafter(-90, -91), 0), rangeError),
		refused(away, at(0, math.Nextafter(180, 181)), rangeError),
		refused(away, at(0, math.Nextafter(-180, -181)), rangeError),
		refused(away, at(180, 90), rangeError),
		refused(zero, at(math.NaN(), 0), nanError),
		refused(zero, at(0, math.NaN()), nanError),
		refused(zero, at(math.Inf(1), 0), rangeError),
		refused(zero, at(0, math.Inf(-1)), rangeError),
	})
}

func TestHomeTellsTheErrorOfLatFirst(t *testing.T) {
	at := func(lat, lon float64) Command { return Command{Kind: Home, Lat: lat, Lon: lon} }
	nan := math.NaN()
	for _, s := range states() {
		for _, x := range []known{
			refused(s, at(nan, nan), nanError),
			refused(s, at(nan, 200), nanError),
			refused(s, at(nan, math.Inf(1)), nanError),
			refused(s, at(91, nan), rangeError),
			refused(s, at(-91, nan), rangeError),
			refused(s, at(math.Inf(-1), nan), rangeError),
			refused(s, at(200, 200), rangeError),
			refused(s, at(1, nan), nanError),
			refused(s, at(1, 200), rangeError),
			refused(s, at(nan, 1), nanError),
			refused(s, at(200, 1), rangeError),
		} {
			checkKnown(t, []known{x})
		}
	}
}

func TestHomeOfAllEdgesInEachMode(t *testing.T) {
	edges := append(edgeDegrees(), wrongDegrees()...)
	for _, lat := range edges {
		for _, lon := range edges {
			for first := range 12 {
				s := state.State{Mode: first % 6, Armed: first >= 6, Iso: (first * 7) % 16}
				if !check(t, s, Command{Kind: Home, Lat: lat, Lon: lon}) || !check(t, homed(s), Command{Kind: Home, Lat: lat, Lon: lon}) {
					return
				}
			}
		}
	}
}

func TestHomeOfManyPlaces(t *testing.T) {
	for seed := range uint64(20000) {
		lat, lon := float64(int64(mixed(2*seed)))*0x1p-63*95, float64(int64(mixed(2*seed+1)))*0x1p-63*190
		for _, s := range []state.State{{}, homed(flying(auto, 4))} {
			if !check(t, s, Command{Kind: Home, Lat: lat, Lon: lon}) {
				return
			}
		}
	}
}

func TestIsolate(t *testing.T) {
	no := func(sensor int) Command { return Command{Kind: Isolate, N: sensor} }
	checkKnown(t, []known{
		{standing(idle, 0), no(0), standing(idle, 1), 0},
		{standing(idle, 0), no(1), standing(idle, 2), 0},
		{standing(idle, 0), no(2), standing(idle, 4), 0},
		{standing(idle, 0), no(3), standing(idle, 8), 0},
		// Idle needs no sensor.
		{standing(idle, 7), no(3), standing(idle, 15), 0},
		{standing(idle, 14), no(0), standing(idle, 15), 0},
		{flying(manual, 3), no(3), flying(manual, 11), 0},
		refused(flying(manual, 7), no(3), sensorError),
		{flying(hover, 8), no(0), flying(hover, 9), 0},
		refused(flying(hover, 9), no(1), sensorError),
		{homed(flying(auto, 0)), no(1), homed(flying(auto, 2)), 0},
		refused(homed(flying(auto, 2)), no(0), sensorError),
		{homed(flying(back, 4)), no(0), homed(flying(back, 5)), 0},
		refused(homed(flying(back, 5)), no(1), sensorError),
		{flying(land, 5), no(1), flying(land, 7), 0},
		refused(flying(land, 14), no(0), sensorError),
		// What it needs is asked of the mode, armed or not.
		refused(standing(manual, 7), no(3), sensorError),
		refused(standing(auto, 8), no(2), sensorError),
		{flying(idle, 14), no(0), flying(idle, 15), 0},
	})
}

func TestIsolateOfOneThatIsIsolatedAlready(t *testing.T) {
	for _, s := range states() {
		for sensor := range 4 {
			if isolated(s, sensor) {
				checkKnown(t, []known{{s, Command{Kind: Isolate, N: sensor}, s, 0}})
			}
		}
	}
	// As it is, even where fewer are sound than the mode needs, and one fewer would be, too.
	checkKnown(t, []known{
		{flying(manual, 7), Command{Kind: Isolate, N: 0}, flying(manual, 7), 0},
		{flying(manual, 15), Command{Kind: Isolate, N: 3}, flying(manual, 15), 0},
		{homed(flying(auto, 14)), Command{Kind: Isolate, N: 2}, homed(flying(auto, 14)), 0},
	})
}

func TestRestore(t *testing.T) {
	no := func(sensor int) Command { return Command{Kind: Restore, N: sensor} }
	checkKnown(t, []known{
		{standing(idle, 15), no(0), standing(idle, 14), 0},
		{standing(idle, 15), no(1), standing(idle, 13), 0},
		{standing(idle, 15), no(2), standing(idle, 11), 0},
		{standing(idle, 15), no(3), standing(idle, 7), 0},
		{flying(manual, 15), no(2), flying(manual, 11), 0},
		{homed(flying(auto, 12)), no(2), homed(flying(auto, 8)), 0},
		{homed(flying(auto, 8)), no(3), homed(flying(auto, 0)), 0},
	})
	for _, s := range states() {
		for sensor := range 4 {
			if !isolated(s, sensor) {
				checkKnown(t, []known{{s, no(sensor), s, 0}})
			}
		}
	}
}

func TestSensorsThatAreNone(t *testing.T) {
	for _, n := range append(far(), 4, 5, 6) {
		for _, s := range states() {
			for _, kind := range []int{Isolate, Restore} {
				c := Command{Kind: kind, N: n}
				if got, err := Delta(s, c); got != s || err != argError {
					t.Fatalf("Delta(%+v, %+v) = %+v, %d", s, c, got, err)
				}
			}
		}
	}
	// That there is no such sensor is told ahead of what the mode needs.
	checkKnown(t, []known{
		refused(flying(manual, 7), Command{Kind: Isolate, N: 4}, argError),
		refused(homed(flying(auto, 15)), Command{Kind: Isolate, N: -1}, argError),
		refused(homed(flying(auto, 15)), Command{Kind: Restore, N: 4}, argError),
	})
}

// P16.3

func TestTheZeroStateFits(t *testing.T) {
	if !Fits(state.State{}) || !Fits(state.Default()) {
		t.Error("the zero state does not fit")
	}
}

func TestWhatFitsStaysFitting(t *testing.T) {
	for _, s := range states() {
		if !Fits(s) {
			continue
		}
		for _, c := range commands() {
			if got, err := Delta(s, c); !Fits(got) || !state.Legal(got) {
				t.Fatalf("Delta(%+v, %+v) = %+v, %d, which does not fit", s, c, got, err)
			}
		}
	}
}

func TestLongFlightsStayFitting(t *testing.T) {
	seen := map[int]bool{}
	for flight := range uint64(500) {
		s := state.Default()
		for step := range uint64(60) {
			n := mixed(flight<<8 | step)
			c := Command{Kind: int(n % 8), N: int(n >> 8 % 8), Lat: float64(int64(n>>16%200)) - 100, Lon: float64(int64(n>>24%400)) - 200}
			if !check(t, s, c) {
				return
			}
			s, _ = Delta(s, c)
			if !Fits(s) || !state.Legal(s) {
				t.Fatalf("flight %d, behind step %d: %+v does not fit", flight, step, s)
			}
			seen[s.Mode] = true
		}
	}
	for mode := range 6 {
		if !seen[mode] {
			t.Errorf("no flight came to mode %d", mode)
		}
	}
}
