package resolve

import (
	"math"
	"testing"

	"dogwatch/state"
)

// The numbers of the document, by themselves: the modes, the verdicts, and how far a home may be from 0, in steps.
const (
	idle = iota
	manual
	hover
	auto
	back
	land
)

const (
	unknown = iota
	grounded
	airborne
)

const (
	northmost = 737280
	eastmost  = 1474560
)

// The oracle: what the document says, sentence by sentence.

// sound is how many sensors are not isolated, by halving.
func sound(s state.State) int {
	out := 0
	for n, k := s.Iso, 0; k < 4; n, k = n/2, k+1 {
		out += 1 - n%2
	}
	return out
}

// safe is what P19.1 says of Safe: the mode's row is how it comes out with 0 to 4 sound sensors, first without a home, then with one. (With no sound sensor Land is what is left, though it needs one itself.)
func safe(s state.State) int {
	rows := [6][2]string{
		idle:   {"LLHHH", "LLHHH"},
		manual: {"LMMMM", "LMMMM"},
		hover:  {"LLHHH", "LLHHH"},
		auto:   {"LLHHH", "LLHAA"},
		back:   {"LLHHH", "LLRRR"},
		land:   {"LLLLL", "LLLLL"},
	}
	home := 0
	if s.Home {
		home = 1
	}
	switch rows[s.Mode][home][sound(s)] {
	case 'M':
		return manual
	case 'H':
		return hover
	case 'A':
		return auto
	case 'R':
		return back
	}
	return land
}

// resolved is what P19.2 says of Resolve.
func resolved(s state.State, verdict int) state.State {
	switch verdict {
	case 2:
		return state.State{Mode: safe(s), Armed: true, Home: s.Home, Lat: s.Lat, Lon: s.Lon, Iso: s.Iso}
	case 1:
		return state.State{Mode: 0, Armed: false, Home: s.Home, Lat: s.Lat, Lon: s.Lon, Iso: s.Iso}
	}
	return s
}

// homes are states that have nothing but a home, near and far on all sides of 0, and one that has none.
func homes() []state.State {
	out := []state.State{{}}
	for _, lat := range []int{0, 1, -1, 255, -65536, northmost, -northmost} {
		for _, lon := range []int{0, 1, -1, -256, 65536, eastmost, -eastmost} {
			out = append(out, state.State{Home: true, Lat: lat, Lon: lon})
		}
	}
	return out
}

// everyState calls f of legal states of all modes, armed and not, with every set of isolated sensors, with many homes and with none.
func everyState(f func(s state.State)) {
	for _, s := range homes() {
		for s.Mode = range 6 {
			for s.Iso = range 16 {
				for _, s.Armed = range []bool{false, true} {
					f(s)
				}
			}
		}
	}
}

// strange are verdicts that are none: those beside the verdicts, the least and the greatest int, and such as come to verdicts in fewer bits, or without their sign.
func strange() []int {
	out := []int{-1, -2, -3, -4, 3, 4, 5, 6, 7, 8, 9, 10, 99, -99, 127, -128, 255, math.MaxInt, math.MaxInt - 1, math.MinInt, math.MinInt + 1, math.MinInt + 2, math.MaxInt32, math.MinInt32, math.MaxUint32, math.MaxInt16, math.MinInt16, math.MaxUint16}
	for verdict := range 3 {
		for _, bits := range []int{2, 3, 8, 16, 32, 48, 62} {
			out = append(out, 1<<bits+verdict, -1<<bits+verdict, -1<<bits-verdict)
		}
	}
	return out
}

// everyVerdict is the three verdicts, and numbers that are none.
func everyVerdict() []int {
	return append(strange(), unknown, grounded, airborne)
}

// checkSafe holds Safe of s against a mode.
func checkSafe(t *testing.T, s state.State, want int) {
	t.Helper()
	if got := Safe(s); got != want {
		t.Errorf("Safe(%+v) = %d, not %d", s, got, want)
	}
}

// checkResolve holds Resolve of s against a state, and Settled against whether that is s.
func checkResolve(t *testing.T, s state.State, verdict int, want state.State) {
	t.Helper()
	if got := Resolve(s, verdict); got != want {
		t.Errorf("Resolve(%+v, %d) = %+v, not %+v", s, verdict, got, want)
	}
	if got := Settled(s, verdict); got != (s == want) {
		t.Errorf("Settled(%+v, %d) = %v", s, verdict, got)
	}
}

// P19.1

// setsOf are the sets of isolated sensors that leave so many sound ones.
func setsOf(n int) []int {
	return [5][]int{{15}, {7, 11, 13, 14}, {3, 5, 6, 9, 10, 12}, {1, 2, 4, 8}, {0}}[n]
}

func TestSafeOfEachNumberOfSoundSensors(t *testing.T) {
	for mode, x := range [6]struct{ homeless, home [5]int }{
		idle:   {[5]int{land, land, hover, hover, hover}, [5]int{land, land, hover, hover, hover}},
		manual: {[5]int{land, manual, manual, manual, manual}, [5]int{land, manual, manual, manual, manual}},
		hover:  {[5]int{land, land, hover, hover, hover}, [5]int{land, land, hover, hover, hover}},
		auto:   {[5]int{land, land, hover, hover, hover}, [5]int{land, land, hover, auto, auto}},
		back:   {[5]int{land, land, hover, hover, hover}, [5]int{land, land, back, back, back}},
		land:   {[5]int{land, land, land, land, land}, [5]int{land, land, land, land, land}},
	} {
		for n := range 5 {
			for _, iso := range setsOf(n) {
				for _, armed := range []bool{false, true} {
					checkSafe(t, state.State{Mode: mode, Armed: armed, Iso: iso}, x.homeless[n])
					checkSafe(t, state.State{Mode: mode, Armed: armed, Home: true, Iso: iso}, x.home[n])
					checkSafe(t, state.State{Mode: mode, Armed: armed, Home: true, Lat: -northmost, Lon: eastmost, Iso: iso}, x.home[n])
				}
			}
		}
	}
}

func TestSafeAtAsManySensorsAsAreNeeded(t *testing.T) {
	for _, x := range []struct{ mode, iso, want int }{
		// As many as it needs, and one fewer.
		{manual, 14, manual}, {manual, 15, land},
		{hover, 12, hover}, {hover, 13, land},
		{auto, 8, auto}, {auto, 10, hover},
		{back, 9, back}, {back, 11, land},
		{land, 7, land}, {land, 15, land},
		// In Idle nothing is needed, but nothing flies either: two sound sensors, one, and none.
		{idle, 5, hover}, {idle, 7, land}, {idle, 15, land}, {idle, 0, hover},
	} {
		checkSafe(t, state.State{Mode: x.mode, Armed: true, Home: true, Lat: 1, Lon: -1, Iso: x.iso}, x.want)
		checkSafe(t, state.State{Mode: x.mode, Home: true, Iso: x.iso}, x.want)
	}
}

func TestSafeWithAHomeAndWithNone(t *testing.T) {
	for _, x := range []struct{ mode, iso, none, home int }{
		{auto, 0, hover, auto}, {auto, 1, hover, auto}, {auto, 3, hover, hover}, {auto, 7, land, land}, {auto, 15, land, land},
		{back, 0, hover, back}, {back, 4, hover, back}, {back, 10, hover, back}, {back, 14, land, land}, {back, 15, land, land},
		// These ask no home.
		{manual, 0, manual, manual}, {manual, 7, manual, manual}, {hover, 0, hover, hover}, {hover, 6, hover, hover}, {land, 0, land, land}, {idle, 0, hover, hover},
	} {
		checkSafe(t, state.State{Mode: x.mode, Armed: true, Iso: x.iso}, x.none)
		// A home at 0 is one, too.
		checkSafe(t, state.State{Mode: x.mode, Armed: true, Home: true, Iso: x.iso}, x.home)
		checkSafe(t, state.State{Mode: x.mode, Armed: true, Home: true, Lat: 5, Iso: x.iso}, x.home)
		checkSafe(t, state.State{Mode: x.mode, Armed: true, Home: true, Lon: -5, Iso: x.iso}, x.home)
	}
}

func TestSafeOfAll(t *testing.T) {
	came := map[int]int{}
	everyState(func(s state.State) {
		checkSafe(t, s, safe(s))
		came[Safe(s)]++
	})
	for mode := manual; mode <= land; mode++ {
		if came[mode] == 0 {
			t.Errorf("no state's Safe is %d", mode)
		}
	}
	if len(came) != 5 {
		t.Errorf("Safe comes to %d modes", len(came))
	}
}

// P19.2

func TestResolveOfKnown(t *testing.T) {
	for _, x := range []struct {
		s       state.State
		verdict int
		want    state.State
	}{
		// The chapter's example, and those of the document's own.
		{state.State{Mode: auto, Armed: true}, airborne, state.State{Mode: hover, Armed: true}},
		{state.State{Mode: auto, Armed: true, Home: true, Lat: 3, Lon: -4}, airborne, state.State{Mode: auto, Armed: true, Home: true, Lat: 3, Lon: -4}},
		{state.State{Mode: auto, Armed: true, Home: true, Lat: 3, Lon: -4}, grounded, state.State{Home: true, Lat: 3, Lon: -4}},
		// One that was not armed, and flies.
		{state.State{}, airborne, state.State{Mode: hover, Armed: true}},
		{state.State{Iso: 12}, airborne, state.State{Mode: hover, Armed: true, Iso: 12}},
		{state.State{Iso: 13}, airborne, state.State{Mode: land, Armed: true, Iso: 13}},
		{state.State{Iso: 15}, airborne, state.State{Mode: land, Armed: true, Iso: 15}},
		{state.State{Mode: back, Home: true, Lon: 9, Iso: 6}, airborne, state.State{Mode: back, Armed: true, Home: true, Lon: 9, Iso: 6}},
		{state.State{Mode: manual}, airborne, state.State{Mode: manual, Armed: true}},
		// One that was armed in Idle, which no command leads to.
		{state.State{Armed: true}, airborne, state.State{Mode: hover, Armed: true}},
		{state.State{Armed: true}, grounded, state.State{}},
		// One that stands, whatever its sensors are.
		{state.State{Mode: land, Armed: true, Iso: 15}, grounded, state.State{Iso: 15}},
		{state.State{Mode: manual, Iso: 7}, grounded, state.State{Iso: 7}},
		{state.State{Mode: back, Armed: true, Home: true, Lat: -1, Iso: 2}, grounded, state.State{Home: true, Lat: -1, Iso: 2}},
		// What is settled already.
		{state.State{}, grounded, state.State{}},
		{state.State{Home: true, Lat: 1, Iso: 15}, grounded, state.State{Home: true, Lat: 1, Iso: 15}},
		{state.State{Mode: land, Armed: true, Iso: 15}, airborne, state.State{Mode: land, Armed: true, Iso: 15}},
		{state.State{Mode: manual, Armed: true, Iso: 14}, airborne, state.State{Mode: manual, Armed: true, Iso: 14}},
		// What says nothing.
		{state.State{}, unknown, state.State{}},
		{state.State{Mode: auto, Armed: true}, unknown, state.State{Mode: auto, Armed: true}},
		{state.State{Mode: auto, Iso: 15}, unknown, state.State{Mode: auto, Iso: 15}},
	} {
		checkResolve(t, x.s, x.verdict, x.want)
	}
}

func TestResolveOfAll(t *testing.T) {
	everyState(func(s state.State) {
		for verdict := range 3 {
			checkResolve(t, s, verdict, resolved(s, verdict))
		}
	})
}

func TestResolveOfVerdictsThatAreNone(t *testing.T) {
	for _, verdict := range append(strange(), unknown) {
		everyState(func(s state.State) {
			if got := Resolve(s, verdict); got != s || !Settled(s, verdict) {
				t.Fatalf("Resolve(%+v, %d) = %+v, Settled %v", s, verdict, got, Settled(s, verdict))
			}
		})
	}
}

func TestSettledOfKnown(t *testing.T) {
	for _, x := range []struct {
		s                state.State
		stands, airborne bool
	}{
		{state.State{}, true, false},
		{state.State{Home: true, Lat: 7, Lon: 8, Iso: 9}, true, false},
		// Only whether it is armed, or only the mode, does not fit.
		{state.State{Armed: true}, false, false},
		{state.State{Mode: hover}, false, false},
		{state.State{Mode: land, Iso: 15}, false, false},
		{state.State{Mode: hover, Armed: true, Iso: 7}, false, false},
		{state.State{Mode: auto, Armed: true}, false, false},
		{state.State{Mode: auto, Armed: true, Home: true, Iso: 3}, false, false},
		{state.State{Mode: manual, Armed: true, Iso: 15}, false, false},
		{state.State{Mode: manual, Armed: true, Iso: 7}, false, true},
		{state.State{Mode: hover, Armed: true, Iso: 3}, false, true},
		{state.State{Mode: auto, Armed: true, Home: true, Iso: 1}, false, true},
		{state.State{Mode: back, Armed: true, Home: true, Iso: 3}, false, true},
		{state.State{Mode: land, Armed: true}, false, true},
		{state.State{Mode: land, Armed: true, Iso: 15}, false, true},
	} {
		for verdict, want := range map[int]bool{grounded: x.stands, airborne: x.airborne, unknown: true, 3: true, -1: true, math.MinInt: true, math.MaxInt: true} {
			if got := Settled(x.s, verdict); got != want {
				t.Errorf("Settled(%+v, %d) = %v", x.s, verdict, got)
			}
		}
	}
}

// P19.3

func TestWhatIsResolvedIsSettled(t *testing.T) {
	for _, verdict := range everyVerdict() {
		everyState(func(s state.State) {
			once := Resolve(s, verdict)
			if !Settled(once, verdict) || Resolve(once, verdict) != once {
				t.Fatalf("%+v, resolved by %d: %+v, which is not settled", s, verdict, once)
			}
		})
	}
}

func TestWhoFliesStaysArmedAndWhoStandsIsNot(t *testing.T) {
	everyState(func(s state.State) {
		if got := Resolve(s, airborne); !got.Armed || got.Mode == idle {
			t.Errorf("%+v, seen to fly: %+v", s, got)
		}
		if got := Resolve(s, grounded); got.Armed || got.Mode != idle {
			t.Errorf("%+v, seen to stand: %+v", s, got)
		}
	})
}

func TestHomeAndSensorsStay(t *testing.T) {
	for _, verdict := range everyVerdict() {
		everyState(func(s state.State) {
			got := Resolve(s, verdict)
			if got.Home != s.Home || got.Lat != s.Lat || got.Lon != s.Lon || got.Iso != s.Iso {
				t.Fatalf("%+v, resolved by %d: %+v, with another home, or other sensors", s, verdict, got)
			}
			if !state.Legal(got) {
				t.Fatalf("%+v, resolved by %d: %+v, which is not legal", s, verdict, got)
			}
		})
	}
}

func TestResolvingAnewComesToTheSameSafeMode(t *testing.T) {
	// A restart in flight, again and again, does not lead a craft from mode to mode.
	everyState(func(s state.State) {
		if mode := Safe(s); Safe(Resolve(s, airborne)) != mode || Resolve(s, airborne).Mode != mode {
			t.Errorf("%+v: safe in %d, and then in %d", s, mode, Safe(Resolve(s, airborne)))
		}
	})
}
