package script

import (
	"math"
	"slices"
	"strings"
	"testing"

	"dogwatch/api"
	"dogwatch/command"
	"dogwatch/debounce"
	"dogwatch/flash"
	"dogwatch/layout"
	"dogwatch/state"
	"dogwatch/super"
	"dogwatch/vote"
)

// The numbers of the document, by themselves: the kinds of entries, the phases, the modes, the kinds of commands, and the errors.
const (
	asks = 1 + iota
	sees
	resets
	turns
)

const (
	holds = iota
	runs
	fails
	isOff
)

const (
	idle = iota
	manual
	hover
	auto
	back
	land
)

const (
	toGo = 1 + iota
	toArm
	toDisarm
	toHome
	toIsolate
	toRestore
)

const (
	grounded = 1
	airborne = 2
)

const (
	nanError    = 12
	rangeError  = 13
	modeError   = 20
	armedError  = 21
	unarmError  = 22
	homeError   = 23
	sensorError = 24
	holdError   = 25
	failedError = 26
)

const place = 24

// The oracle: what the document says, sentence by sentence.

// begun is what P21.1 says of Begin.
func begun(n, limit int) Flight {
	size := 0
	if n >= 1 && n <= 12 {
		size = 24*n + 24
	}
	var f flash.Flash
	if limit >= 0 && limit <= 1000 {
		f = flash.Flash{Banks: [2]string{same(size, 255), same(size, 255)}, Limit: limit}
	}
	return Flight{X: super.Super{F: f}}
}

// bitsOf is all bits of both banks, each byte's lowest one first.
func bitsOf(f flash.Flash) []bool {
	var out []bool
	for _, b := range []byte(f.Banks[0] + f.Banks[1]) {
		for range 8 {
			out = append(out, b%2 == 1)
			b /= 2
		}
	}
	return out
}

// bytesOf is the bytes of these bits.
func bytesOf(l []bool) string {
	var out []byte
	for b := range slices.Chunk(l, 8) {
		n := byte(0)
		for i := 7; i >= 0; i-- {
			n *= 2
			if b[i] {
				n++
			}
		}
		out = append(out, n)
	}
	return string(out)
}

// flipped is what P21.1 says of Flip.
func flipped(f flash.Flash, at int) flash.Flash {
	l := bitsOf(f)
	if at < 0 || at >= len(l) {
		return f
	}
	l[at] = !l[at]
	s, n := bytesOf(l), len(f.Banks[0])
	return flash.Flash{Banks: [2]string{s[:n], s[n:]}, Erases: f.Erases, Limit: f.Limit}
}

// stepped is what P21.2 says of Step.
func stepped(f Flight, e Entry) Flight {
	var x super.Super
	var err api.Errno
	switch e.Kind {
	case 1:
		x, err = super.Command(f.X, e.C, e.P)
	case 2:
		x, err = super.Sample(f.X, e.V, e.P)
	case 3:
		x = super.Boot(f.X.F)
	case 4:
		x = super.Boot(flipped(f.X.F, e.At))
	default:
		return f
	}
	return Flight{X: x, Out: slices.Concat(f.Out, []Reply{{E: err, Phase: x.Phase, S: x.S}})}
}

// ran is what P21.2 says of Run.
func ran(f Flight, l []Entry) Flight {
	for _, e := range l {
		f = stepped(f, e)
	}
	return f
}

// What the tests hand in.

// mixed is a number that hangs on seed alone.
func mixed(seed uint64) uint64 {
	seed += 0x9E3779B97F4A7C15
	seed = (seed ^ seed>>30) * 0xBF58476D1CE4E5B9
	seed = (seed ^ seed>>27) * 0x94D049BB133111EB
	return seed ^ seed>>31
}

// of is the element of l that n leads to.
func of[E any](l []E, n uint64) E {
	return l[n%uint64(len(l))]
}

// same is n times the byte b.
func same(n int, b byte) string {
	return strings.Repeat(string([]byte{b}), n)
}

// mixedText is n bytes that hang on seed alone.
func mixedText(n int, seed uint64) string {
	out := make([]byte, n)
	for i := range out {
		out[i] = byte(mixed(seed<<20 + uint64(i)))
	}
	return string(out)
}

// far are numbers a long way from 0, and such as only look small where some of their bits are lost.
func far() []int {
	return []int{math.MinInt, math.MinInt + 1, math.MinInt + 7, math.MinInt + 8, -1 << 62, -1<<32 - 1, -1 << 32, -1<<32 + 2, -1 << 31, 1 << 31, 1<<32 + 2, 1 << 60, 1<<61 + 2, 1<<62 + 3, math.MaxInt - 7, math.MaxInt - 1, math.MaxInt}
}

// whole is power that doesn't go; gone goes at once.
func whole() super.Power {
	return super.Power{Cut: -1}
}

func gone() super.Power {
	return super.Power{Cut: 0}
}

// powers go at each op of a plan, with masks that take nothing, some, and all of it, and at none.
func powers() []super.Power {
	out := []super.Power{whole(), {Cut: -2, Mask: same(400, 255)}, {Cut: 6}, {Cut: math.MaxInt}, {Cut: math.MinInt}, {Cut: 1 << 32}}
	for cut := range 6 {
		for _, mask := range []string{"", "\xff", same(400, 255), same(400, 1), mixedText(400, 1), mixedText(60, 2)} {
			out = append(out, super.Power{Cut: cut, Mask: mask})
		}
	}
	return out
}

// does is an entry that hands in a command of a kind, with a number.
func does(kind, n int) Entry {
	return Entry{Kind: asks, C: command.Command{Kind: kind, N: n}, P: whole()}
}

// homeAt is an entry that sets the home.
func homeAt(lat, lon float64) Entry {
	return Entry{Kind: asks, C: command.Command{Kind: toHome, Lat: lat, Lon: lon}, P: whole()}
}

// shows is an entry that hands in a sample of a vote.
func shows(v int) Entry {
	return Entry{Kind: sees, V: [3]vote.Sample{{Alt: 1.5}, {}, {Alt: 10, Thrust: 0.5}}[v], P: whole()}
}

// restart is an entry that resets.
func restart() Entry {
	return Entry{Kind: resets}
}

// turned is an entry that turns a bit.
func turned(at int) Entry {
	return Entry{Kind: turns, At: at}
}

// by is e with another power.
func by(e Entry, p super.Power) Entry {
	e.P = p
	return e
}

// times is n times e.
func times(n int, e Entry) []Entry {
	return slices.Repeat([]Entry{e}, n)
}

// commands are entries that hand in all kinds of commands, right ones and faulty ones.
func commands() []Entry {
	nan, inf := math.NaN(), math.Inf(1)
	out := []Entry{
		does(toArm, 0), does(toDisarm, 0), homeAt(0.5, -1), homeAt(90, -180),
		homeAt(90.5, 0), homeAt(0, 180.5), homeAt(nan, 0), homeAt(0, nan), homeAt(-inf, 0), homeAt(0, inf),
	}
	for _, n := range []int{0, 1, 2, 3, 4, 5, 6, -1, math.MaxInt, math.MinInt} {
		out = append(out, does(toGo, n), does(toIsolate, n), does(toRestore, n))
	}
	for _, kind := range append(far(), 0, -1, 7, 255, 258) {
		out = append(out, does(kind, 0))
	}
	return out
}

// samples are entries that hand in all kinds of samples, broken ones among them.
func samples() []Entry {
	nan, inf := math.NaN(), math.Inf(1)
	out := []Entry{shows(0), shows(grounded), shows(airborne)}
	for _, s := range []vote.Sample{
		{Alt: 0.5, Speed: -0.5, Thrust: 0.1}, {Alt: 10}, {Speed: -4, Thrust: 1}, {Alt: nan, Speed: 9, Thrust: 9},
		{Speed: nan}, {Alt: 9, Speed: 9, Thrust: nan}, {Alt: inf, Speed: -inf}, {Alt: -inf, Thrust: -inf}, {Alt: nan, Speed: nan, Thrust: nan},
	} {
		out = append(out, Entry{Kind: sees, V: s, P: whole()})
	}
	return out
}

// restarts are entries that reset, and that turn bits of all places of a flash of two slots, and bits that there are none.
func restarts() []Entry {
	out := []Entry{restart()}
	for at := -20; at < 8*6*place+20; at += 3 {
		out = append(out, turned(at))
	}
	for _, at := range far() {
		out = append(out, turned(at))
	}
	return out
}

// noKinds are entries of no kind, which have all that one of a kind may have.
func noKinds() []Entry {
	var out []Entry
	for _, kind := range append(far(), 0, -1, -2, -3, -4, 5, 6, 7, 8, 255, 256, 257, 258, 259, 260) {
		e := shows(airborne)
		e.Kind, e.C, e.At = kind, does(toIsolate, 1).C, 7
		out = append(out, e, Entry{Kind: kind})
	}
	return out
}

// entries are such of all kinds, and of none.
func entries() []Entry {
	return slices.Concat(commands(), samples(), restarts(), noKinds())
}

// with is a flash to which states were written, in order.
func with(f flash.Flash, l ...state.State) flash.Flash {
	for _, s := range l {
		x, err := super.Write(super.Super{F: f}, s, whole())
		if err != 0 {
			panic("a state could not be written")
		}
		f = x.F
	}
	return f
}

// inAir is a state that is armed, in a mode; homed is s with a home.
func inAir(mode, iso int) state.State {
	return state.State{Mode: mode, Armed: true, Iso: iso}
}

func homed(s state.State) state.State {
	s.Home, s.Lat, s.Lon = true, -1, 2
	return s
}

// flown is a flight of two slots with these entries.
func flown(l ...Entry) Flight {
	return ran(begun(2, 99), l)
}

// ready is a flight that runs, disarmed; armed is one that runs, in Manual.
func ready() Flight {
	return flown(times(3, shows(grounded))...)
}

func armed() Flight {
	return stepped(ready(), does(toArm, 0))
}

// flights are such of all phases, with replies and without.
func flights() []Flight {
	return []Flight{
		{}, begun(1, 9), begun(2, 0), begun(12, 1000),
		flown(shows(airborne), shows(airborne)),
		flown(homeAt(1, 2), shows(grounded), shows(grounded)),
		ready(), armed(),
		ran(armed(), []Entry{homeAt(1, 2), does(toGo, auto), does(toIsolate, 3), restart(), shows(airborne), shows(airborne)}),
		ran(armed(), []Entry{by(does(toGo, hover), super.Power{Cut: 1, Mask: "\xff"})}),
		stepped(armed(), by(does(toGo, hover), gone())),
		ran(begun(1, 1), slices.Concat(times(3, shows(grounded)), []Entry{does(toIsolate, 1), does(toIsolate, 2)})),
		ran(begun(3, 0), times(3, shows(grounded))),
		ran(begun(0, 9), times(3, shows(airborne))),
		{X: super.Super{F: flash.Flash{Banks: [2]string{mixedText(72, 1), mixedText(71, 2)}, Erases: [2]int{3, -4}, Limit: 50}, Phase: runs}},
		{X: super.Super{F: flash.Flash{Banks: [2]string{"", "odd"}}, Phase: 7, Votes: debounce.Count{Vote: 2, N: math.MaxInt}}, Out: []Reply{{E: 99, Phase: -1}}},
	}
}

// longFlight is n entries that hang on seed alone.
func longFlight(n int, seed uint64) []Entry {
	all := entries()
	var out []Entry
	for i := range uint64(n) {
		n := mixed(seed<<8 | i | 1<<40)
		e := shows(1 + int(seed+i/12)%2)
		switch n % 16 {
		case 0:
			e = restart()
		case 1:
			e = turned(int(n>>8%700) - 20)
		case 2, 3:
			e = of(all, n>>8)
		case 4, 5, 6, 7, 8, 9:
			e = Entry{Kind: asks, C: command.Command{Kind: int(n >> 8 % 7), N: int(n >> 12 % 6), Lat: float64(n>>20%180) - 90, Lon: float64(n>>30%360) - 180}, P: whole()}
		}
		if n>>40%16 == 0 {
			e = by(e, of(powers(), n>>44))
		}
		out = append(out, e)
	}
	return out
}

// sameFlight tells whether two flights are alike; that a list is nil doesn't count.
func sameFlight(f, g Flight) bool {
	return f.X == g.X && slices.Equal(f.Out, g.Out)
}

// copyOf is f with memory of its own.
func copyOf(f Flight) Flight {
	return Flight{X: f.X, Out: append([]Reply{}, f.Out...)}
}

// checkStep tells where a step does not come to what is said of it.
func checkStep(t *testing.T, f Flight, e Entry) {
	t.Helper()
	if got, want := Step(f, e), stepped(f, e); !sameFlight(got, want) {
		t.Fatalf("Step %+v of %+v:\n%+v, not\n%+v", e, f, got, want)
	}
}

// checkReplies tells where entries do not lead to these replies.
func checkReplies(t *testing.T, f Flight, l []Entry, want ...Reply) {
	t.Helper()
	got := Run(f, l)
	if !slices.Equal(got.Out, want) {
		t.Errorf("Run of %+v: the replies\n%+v, not\n%+v", l, got.Out, want)
	}
	if last := len(want) - 1; last >= 0 && (got.X.Phase != want[last].Phase || got.X.S != want[last].S) {
		t.Errorf("Run of %+v: %+v", l, got.X)
	}
}

func TestKindsAreNumbered(t *testing.T) {
	if Ask != asks || See != sees || Reset != resets || Turn != turns {
		t.Error("the kinds have other numbers")
	}
}

// P21.1

func TestBeginOfKnown(t *testing.T) {
	for _, c := range []struct{ n, limit, size int }{{1, 0, 48}, {1, 1000, 48}, {2, 9, 72}, {11, 1, 288}, {12, 0, 312}, {12, 1000, 312}} {
		f := Begin(c.n, c.limit)
		if f.X != super.Boot(flash.New(c.size, c.limit)) || len(f.Out) != 0 {
			t.Errorf("Begin of %d and %d: %+v", c.n, c.limit, f)
		}
		if f.X.F.Limit != c.limit || f.X.F.Banks != [2]string{same(c.size, 255), same(c.size, 255)} || f.X.F.Erases != [2]int{} {
			t.Errorf("Begin of %d and %d: the flash is %+v", c.n, c.limit, f.X.F)
		}
		if f.X.Phase != holds || f.X.S != (state.State{}) || f.X.Votes != (debounce.Count{}) {
			t.Errorf("Begin of %d and %d: the supervisor is %+v", c.n, c.limit, f.X)
		}
	}
}

func TestBeginOfNoSuchFlash(t *testing.T) {
	// Where there are no such slots, the banks are empty, but the limit stands.
	for _, n := range append(far(), 0, -1, 13, 14, -12, 72) {
		if f := Begin(n, 9); f.X != (super.Super{F: flash.Flash{Limit: 9}}) || len(f.Out) != 0 {
			t.Errorf("Begin of %d and 9: %+v", n, f)
		}
	}
	for _, limit := range append(far(), -1, -2, 1001, 1002) {
		if f := Begin(2, limit); f.X != (super.Super{}) || len(f.Out) != 0 {
			t.Errorf("Begin of 2 and %d: %+v", limit, f)
		}
	}
}

func TestBeginOfAll(t *testing.T) {
	slots, limits := far(), far()
	for n := -30; n <= 30; n++ {
		slots = append(slots, n)
	}
	for limit := -5; limit <= 1005; limit += 5 {
		limits = append(limits, limit-1, limit, limit+1)
	}
	for _, n := range slots {
		for _, limit := range limits {
			got, want := Begin(n, limit), begun(n, limit)
			if !sameFlight(got, want) || got.X != super.Boot(flash.New(layout.Size(n), limit)) {
				t.Fatalf("Begin of %d and %d: %+v", n, limit, got)
			}
		}
	}
}

func TestFlipOfKnown(t *testing.T) {
	f := flash.Flash{Banks: [2]string{"\x00\xff\x0f", "\x80\x01"}, Erases: [2]int{3, 4}, Limit: 5}
	for _, c := range []struct {
		at       int
		one, two string
	}{
		{0, "\x01\xff\x0f", "\x80\x01"}, {7, "\x80\xff\x0f", "\x80\x01"}, {8, "\x00\xfe\x0f", "\x80\x01"}, {15, "\x00\x7f\x0f", "\x80\x01"},
		{16, "\x00\xff\x0e", "\x80\x01"}, {20, "\x00\xff\x1f", "\x80\x01"}, {23, "\x00\xff\x8f", "\x80\x01"},
		{24, "\x00\xff\x0f", "\x81\x01"}, {31, "\x00\xff\x0f", "\x00\x01"}, {32, "\x00\xff\x0f", "\x80\x00"}, {38, "\x00\xff\x0f", "\x80\x41"}, {39, "\x00\xff\x0f", "\x80\x81"},
		{40, "\x00\xff\x0f", "\x80\x01"}, {47, "\x00\xff\x0f", "\x80\x01"}, {-1, "\x00\xff\x0f", "\x80\x01"}, {-7, "\x00\xff\x0f", "\x80\x01"}, {-8, "\x00\xff\x0f", "\x80\x01"}, {-9, "\x00\xff\x0f", "\x80\x01"},
	} {
		want := flash.Flash{Banks: [2]string{c.one, c.two}, Erases: [2]int{3, 4}, Limit: 5}
		if got := Flip(f, c.at); got != want {
			t.Errorf("Flip of %d: %q, not %q", c.at, got.Banks, want.Banks)
		}
	}
}

// flashes are such of banks of many lengths, empty ones and odd ones among them, with bytes of all kinds.
func flashes() []flash.Flash {
	var out []flash.Flash
	for _, n := range []int{0, 1, 2, 3, 24, 48, 71} {
		for _, m := range []int{0, 1, 2, 5, 24, 48, 72} {
			for seed, banks := range [][2]string{{mixedText(n, 3), mixedText(m, 4)}, {same(n, 0), same(m, 255)}, {same(n, 255), same(m, 0)}} {
				out = append(out, flash.Flash{Banks: banks, Erases: [2]int{n, -m}, Limit: seed})
			}
		}
	}
	return append(out, flash.Flash{}, flash.New(400, 1000), flash.Flash{Banks: [2]string{mixedText(400, 5), mixedText(500, 6)}})
}

func TestFlipOfEachBit(t *testing.T) {
	for _, f := range flashes() {
		total := 8 * (len(f.Banks[0]) + len(f.Banks[1]))
		step := 1 + total/600
		for at := -40; at < total+40; at += step {
			g := Flip(f, at)
			if g != flipped(f, at) {
				t.Fatalf("Flip of %d of banks of %d and %d bytes: %q", at, len(f.Banks[0]), len(f.Banks[1]), g.Banks)
			}
			if inside := at >= 0 && at < total; (g != f) != inside {
				t.Fatalf("Flip of %d of banks of %d and %d bytes", at, len(f.Banks[0]), len(f.Banks[1]))
			}
			if Flip(g, at) != f {
				t.Fatalf("Flip of %d, twice: %q", at, Flip(g, at).Banks)
			}
		}
	}
}

func TestFlipAtTheEndsOfBanks(t *testing.T) {
	for _, f := range flashes() {
		one, two := len(f.Banks[0]), len(f.Banks[1])
		for _, at := range []int{0, one - 1, one, one + 1, one + two - 1, one + two} {
			for bit := range 8 {
				g := Flip(f, 8*at+bit)
				if g != flipped(f, 8*at+bit) || len(g.Banks[0]) != one || len(g.Banks[1]) != two {
					t.Fatalf("Flip of bit %d of byte %d of banks of %d and %d bytes: %q", bit, at, one, two, g.Banks)
				}
				want := f
				switch {
				case at >= 0 && at < one:
					want.Banks[0] = differing(f.Banks[0], at, 1<<bit)
				case at >= one && at < one+two:
					want.Banks[1] = differing(f.Banks[1], at-one, 1<<bit)
				}
				if g != want {
					t.Fatalf("Flip of bit %d of byte %d of banks of %d and %d bytes: %q, not %q", bit, at, one, two, g.Banks, want.Banks)
				}
			}
		}
	}
}

// differing is s with the bits of n turned in one of its bytes.
func differing(s string, at int, n byte) string {
	b := []byte(s)
	b[at] ^= n
	return string(b)
}

func TestFlipOfNoSuchPlace(t *testing.T) {
	for _, f := range flashes() {
		end := 8 * (len(f.Banks[0]) + len(f.Banks[1]))
		for _, at := range append(far(), -1, -2, -7, -8, -9, -15, -16, -17, -64, -end, -end-1, end, end+1, end+7, end+8, 2*end+8) {
			if g := Flip(f, at); g != f {
				t.Fatalf("Flip of %d of %d bits: %q", at, end, g.Banks)
			}
		}
	}
}

func TestFlipOfTwoBits(t *testing.T) {
	f := flash.Flash{Banks: [2]string{mixedText(3, 7), mixedText(2, 8)}, Limit: 2}
	for a := range 40 {
		for b := range 40 {
			if Flip(Flip(f, a), b) != Flip(Flip(f, b), a) || (Flip(Flip(f, a), b) == f) != (a == b) {
				t.Errorf("Flip of %d and of %d", a, b)
			}
		}
	}
}

// P21.2

func TestTheExample(t *testing.T) {
	for _, f := range []Flight{Begin(1, 0), Begin(2, 9), Begin(12, 1000), Begin(0, 9), {}} {
		checkReplies(t, f, []Entry{{Kind: Reset}}, Reply{E: 0, Phase: holds, S: state.State{}})
	}
}

func TestAFlightFromItsBoot(t *testing.T) {
	flies := state.State{Mode: manual, Armed: true}
	far := state.State{Mode: auto, Armed: true, Home: true, Lat: 4096, Lon: -8192}
	weak := far
	weak.Iso = 8
	checkReplies(t, Begin(2, 99), []Entry{
		does(toArm, 0), shows(grounded), shows(airborne), shows(grounded), shows(0), shows(grounded), shows(grounded),
		does(toDisarm, 0), does(toArm, 0), does(toArm, 0), does(toGo, auto), homeAt(0.5, -1), does(toGo, auto), does(toGo, idle), does(toGo, 9),
		does(toIsolate, 3), does(toIsolate, 2), does(9, 0), homeAt(math.NaN(), 0), homeAt(91, 0),
		restart(), does(toGo, hover), shows(airborne), shows(airborne), shows(airborne),
	},
		Reply{E: holdError}, Reply{}, Reply{}, Reply{}, Reply{}, Reply{}, Reply{Phase: runs},
		Reply{E: unarmError, Phase: runs}, Reply{Phase: runs, S: flies}, Reply{E: armedError, Phase: runs, S: flies}, Reply{E: homeError, Phase: runs, S: flies},
		Reply{Phase: runs, S: state.State{Mode: manual, Armed: true, Home: true, Lat: 4096, Lon: -8192}}, Reply{Phase: runs, S: far}, Reply{E: modeError, Phase: runs, S: far}, Reply{E: modeError, Phase: runs, S: far},
		Reply{Phase: runs, S: weak}, Reply{E: sensorError, Phase: runs, S: weak}, Reply{E: 1, Phase: runs, S: weak}, Reply{E: nanError, Phase: runs, S: weak}, Reply{E: rangeError, Phase: runs, S: weak},
		Reply{S: weak}, Reply{E: holdError, S: weak}, Reply{S: weak}, Reply{S: weak}, Reply{Phase: runs, S: weak},
	)
}

func TestAFlightThatIsCut(t *testing.T) {
	flies := state.State{Mode: manual, Armed: true}
	l := append(times(3, shows(grounded)), does(toArm, 0), by(does(toGo, land), gone()), does(toDisarm, 0), shows(airborne), restart(), does(toRestore, 1), shows(airborne), shows(airborne), shows(airborne))
	checkReplies(t, Begin(2, 99), l,
		Reply{}, Reply{}, Reply{Phase: runs}, Reply{Phase: runs, S: flies}, Reply{E: failedError, Phase: isOff, S: flies}, Reply{E: failedError, Phase: isOff, S: flies}, Reply{E: failedError, Phase: isOff, S: flies},
		Reply{S: flies}, Reply{S: flies}, Reply{S: flies}, Reply{S: flies}, Reply{Phase: runs, S: flies})
	// A bank that was used takes six ops. If all are done when the power goes, nobody says so, and yet it is so behind the restart.
	for cut, s := range []state.State{flies, flies, flies, flies, flies, {Mode: land, Armed: true}} {
		l = append(times(3, shows(grounded)), does(toArm, 0), by(does(toGo, land), super.Power{Cut: cut, Mask: same(400, 255)}), restart())
		checkReplies(t, Begin(1, 99), l,
			Reply{}, Reply{}, Reply{Phase: runs}, Reply{Phase: runs, S: flies}, Reply{E: failedError, Phase: isOff, S: flies}, Reply{S: s})
	}
	checkReplies(t, Begin(2, 99), []Entry{by(homeAt(1, 1), super.Power{Cut: 4, Mask: same(400, 255)}), restart()},
		Reply{E: failedError, Phase: isOff}, Reply{S: state.State{Home: true, Lat: 8192, Lon: 8192}})
	// Power that goes while a sample ends the hold.
	checkReplies(t, Begin(2, 99), []Entry{shows(grounded), shows(grounded), by(shows(grounded), gone()), shows(grounded), restart()},
		Reply{}, Reply{}, Reply{E: failedError, Phase: isOff}, Reply{E: failedError, Phase: isOff}, Reply{})
}

func TestAFlightWhoseFlashIsWorn(t *testing.T) {
	checkReplies(t, Begin(3, 0), []Entry{does(toIsolate, 0), does(toIsolate, 0), shows(grounded), restart(), shows(airborne), shows(airborne), shows(airborne), restart()},
		Reply{E: failedError, Phase: fails}, Reply{E: failedError, Phase: fails}, Reply{Phase: fails}, Reply{}, Reply{}, Reply{}, Reply{E: failedError, Phase: fails}, Reply{})
	checkReplies(t, Begin(1, 1), []Entry{does(toIsolate, 0), does(toIsolate, 1), does(toIsolate, 2), restart()},
		Reply{S: state.State{Iso: 1}}, Reply{S: state.State{Iso: 3}}, Reply{E: failedError, Phase: fails, S: state.State{Iso: 3}}, Reply{S: state.State{Iso: 3}})
}

func TestStepOfAll(t *testing.T) {
	all := entries()
	for _, f := range flights() {
		for _, e := range all {
			checkStep(t, f, e)
		}
	}
}

func TestStepWithPowerThatGoes(t *testing.T) {
	for _, f := range flights() {
		for _, e := range slices.Concat(commands()[:20], samples()[:3], noKinds()[:2], restarts()[:3]) {
			for _, p := range powers() {
				checkStep(t, f, by(e, p))
			}
		}
	}
}

func TestStepAddsOneReply(t *testing.T) {
	for _, f := range flights() {
		for _, e := range entries() {
			g := Step(f, e)
			n := len(f.Out)
			if e.Kind < 1 || e.Kind > 4 {
				if !sameFlight(g, f) {
					t.Fatalf("an entry of kind %d: %+v", e.Kind, g)
				}
				continue
			}
			if len(g.Out) != n+1 || !slices.Equal(g.Out[:n], f.Out) {
				t.Fatalf("behind %+v, with an entry %+v, stand %+v", f.Out, e, g.Out)
			}
			if last := g.Out[n]; last.Phase != g.X.Phase || last.S != g.X.S {
				t.Fatalf("the reply is %+v, the supervisor %+v", last, g.X)
			}
		}
	}
}

func TestAskIsACommand(t *testing.T) {
	for _, f := range flights() {
		for _, e := range commands() {
			x, err := super.Command(f.X, e.C, e.P)
			g := Step(f, e)
			if g.X != x || g.Out[len(f.Out)] != (Reply{E: err, Phase: x.Phase, S: x.S}) {
				t.Fatalf("Step %+v: %+v", e, g)
			}
		}
	}
}

func TestSeeIsASample(t *testing.T) {
	for _, f := range flights() {
		for _, e := range samples() {
			x, err := super.Sample(f.X, e.V, e.P)
			g := Step(f, e)
			if g.X != x || g.Out[len(f.Out)] != (Reply{E: err, Phase: x.Phase, S: x.S}) {
				t.Fatalf("Step %+v: %+v", e, g)
			}
		}
	}
}

func TestResetOfEachPhase(t *testing.T) {
	s := homed(inAir(auto, 8))
	f := with(flash.New(72, 9), s)
	for _, phase := range append(far(), holds, runs, fails, isOff, 4, -1) {
		for _, kept := range []state.State{s, {}, inAir(manual, 0)} {
			for _, count := range []debounce.Count{{}, {Vote: airborne, N: 2}, {Vote: grounded, N: 3}} {
				x := super.Super{F: f, S: kept, Phase: phase, Votes: count}
				old := []Reply{{E: 26, Phase: 3, S: kept}}
				g := Step(Flight{X: x, Out: old}, restart())
				if g.X != (super.Super{F: f, S: s}) || !slices.Equal(g.Out, append(old, Reply{S: s})) {
					t.Errorf("reset of phase %d: %+v", phase, g)
				}
				x.F = flash.New(72, 9)
				if g := Step(Flight{X: x}, restart()); g.X != (super.Super{F: x.F}) || !slices.Equal(g.Out, []Reply{{}}) {
					t.Errorf("reset of phase %d with a new flash: %+v", phase, g)
				}
			}
		}
	}
}

func TestATurnedBitThatCounts(t *testing.T) {
	one, two := inAir(hover, 1), homed(inAir(land, 2))
	// Three slots: the first record stands in slot 1, the second one in slot 2, both of bank 0; bank 1 is blank.
	f := with(flash.New(96, 9), one, two)
	for _, phase := range []int{holds, runs, fails, isOff} {
		x := super.Super{F: f, S: two, Phase: phase, Votes: debounce.Count{Vote: airborne, N: 2}}
		for at := range 8 * 192 {
			want := two
			switch slot := at / (8 * place); slot {
			case 0:
				want = state.State{}
			case 2:
				want = one
			}
			g := Step(Flight{X: x}, turned(at))
			if g.X != (super.Super{F: Flip(f, at), S: want}) || !slices.Equal(g.Out, []Reply{{S: want}}) {
				t.Fatalf("bit %d turned in phase %d: %+v", at, phase, g)
			}
			// Turned back, it tells what it told.
			if h := Step(g, turned(at)); h.X != (super.Super{F: f, S: two}) || !slices.Equal(h.Out, []Reply{{S: want}, {S: two}}) {
				t.Fatalf("bit %d turned twice in phase %d: %+v", at, phase, h)
			}
		}
	}
}

func TestATurnedBitOfTheBankThatCounts(t *testing.T) {
	old, young := inAir(hover, 1), homed(inAir(land, 2))
	// One slot: the second record stands in bank 1, where the first one's bank is left behind.
	f := with(flash.New(48, 9), old, young)
	for at := range 8 * 96 {
		want := young
		if at >= 8*48 {
			want = old
		}
		g := Step(Flight{X: super.Super{F: f, S: young, Phase: runs}}, turned(at))
		if g.X != (super.Super{F: Flip(f, at), S: want}) || !slices.Equal(g.Out, []Reply{{S: want}}) {
			t.Fatalf("bit %d turned: %+v", at, g)
		}
	}
}

func TestATurnOfNoSuchBitIsAReset(t *testing.T) {
	for _, f := range flights() {
		end := 8 * (len(f.X.F.Banks[0]) + len(f.X.F.Banks[1]))
		want := Step(f, restart())
		for _, at := range append(far(), -1, -7, -8, -9, -16, end, end+1, end+8) {
			if g := Step(f, turned(at)); !sameFlight(g, want) || g.X.F != f.X.F {
				t.Fatalf("bit %d turned: %+v", at, g)
			}
		}
	}
}

func TestNothingIsDoneOfOtherKinds(t *testing.T) {
	for _, f := range flights() {
		for _, e := range noKinds() {
			if g := Step(f, e); !sameFlight(g, f) {
				t.Fatalf("Step %+v of %+v: %+v", e, f, g)
			}
		}
		if g := Run(f, noKinds()); !sameFlight(g, f) {
			t.Fatalf("Run of entries of no kind, of %+v: %+v", f, g)
		}
	}
}

func TestOnlyWhatAKindNeedsIsAsked(t *testing.T) {
	c, v := does(toIsolate, 2).C, shows(airborne).V
	for _, f := range flights() {
		for _, p := range []super.Power{whole(), gone()} {
			for _, pair := range [][2]Entry{
				{{Kind: asks, C: c, P: p}, {Kind: asks, C: c, P: p, V: v, At: 5}},
				{{Kind: sees, V: v, P: p}, {Kind: sees, V: v, P: p, C: c, At: 5}},
				{{Kind: resets}, {Kind: resets, C: c, V: v, P: p, At: 5}},
				{{Kind: turns, At: 400}, {Kind: turns, C: c, V: v, P: p, At: 400}},
			} {
				if g, h := Step(f, pair[0]), Step(f, pair[1]); !sameFlight(g, h) {
					t.Fatalf("%+v: %+v, but %+v: %+v", pair[0], g, pair[1], h)
				}
			}
		}
	}
}

func TestRunOfNoEntries(t *testing.T) {
	for _, f := range flights() {
		for _, l := range [][]Entry{nil, {}, entries()[:0]} {
			if g := Run(f, l); !sameFlight(g, f) {
				t.Errorf("Run of no entries, of %+v: %+v", f, g)
			}
		}
	}
}

func TestRunOfOneEntryIsStep(t *testing.T) {
	for _, f := range flights() {
		for _, e := range entries() {
			if !sameFlight(Run(f, []Entry{e}), Step(f, e)) {
				t.Fatalf("Run of %+v alone, of %+v: %+v", e, f, Run(f, []Entry{e}))
			}
		}
	}
}

func TestRunIsStepOfEach(t *testing.T) {
	for seed, f := range flights() {
		l := longFlight(60, uint64(seed)+1000)
		g, want := f, f
		for i, e := range l {
			g, want = Step(g, e), stepped(want, e)
			if h := Run(f, l[:i+1]); !sameFlight(h, g) || !sameFlight(g, want) {
				t.Fatalf("Run of %d entries, of %+v: %+v, not %+v, or %+v", i+1, f, h, g, want)
			}
		}
	}
}

func TestRunInTwoParts(t *testing.T) {
	for seed := range uint64(20) {
		l := longFlight(60, seed)
		f := of(flights(), seed)
		want := Run(f, l)
		for i := range len(l) + 1 {
			if g := Run(Run(f, l[:i]), l[i:]); !sameFlight(g, want) {
				t.Fatalf("Run of %d entries, and of the others, of %+v: %+v", i, f, g)
			}
		}
	}
}

func TestRunGoesInOrder(t *testing.T) {
	f := ready()
	there := Run(f, []Entry{does(toIsolate, 1), does(toRestore, 1)})
	here := Run(f, []Entry{does(toRestore, 1), does(toIsolate, 1)})
	if there.X.S.Iso != 0 || here.X.S.Iso != 2 || there.Out[3].S.Iso != 2 || here.Out[3].S.Iso != 0 {
		t.Errorf("%+v and %+v", there, here)
	}
}

// P21.3

func TestLongFlights(t *testing.T) {
	phases, errs, kinds := map[int]int{}, map[api.Errno]int{}, map[int]int{}
	for seed := range uint64(300) {
		n, limit := []int{1, 2, 3, 12, 0}[seed%5], []int{1000, 1000, 8, 2, 0}[seed/5%5]
		l := longFlight(60, seed)
		f := Run(Begin(n, limit), l)
		if want := ran(begun(n, limit), l); !sameFlight(f, want) {
			t.Fatalf("flight %d: %+v, not %+v", seed, f, want)
		}
		count := 0
		for _, e := range l {
			if e.Kind >= 1 && e.Kind <= 4 {
				count++
				kinds[e.Kind]++
			}
		}
		if len(f.Out) != count {
			t.Fatalf("flight %d: %d replies to %d entries", seed, len(f.Out), count)
		}
		for _, r := range f.Out {
			phases[r.Phase]++
			errs[r.E]++
		}
	}
	for n := range 4 {
		if phases[n] < 100 || kinds[n+1] < 100 {
			t.Errorf("phase %d came only %d times, kind %d only %d times", n, phases[n], n+1, kinds[n+1])
		}
	}
	for _, err := range []api.Errno{0, 1, nanError, rangeError, modeError, armedError, unarmError, homeError, holdError, failedError} {
		if errs[err] < 5 {
			t.Errorf("error %d came only %d times", err, errs[err])
		}
	}
}

func TestAFlightIsToldByItsEntriesAlone(t *testing.T) {
	for seed := range uint64(40) {
		l := longFlight(60, seed)
		// What an entry has that its kind doesn't need, and entries of no kind, tell nothing.
		var noisy []Entry
		for i, e := range l {
			n := mixed(seed<<16 | uint64(i))
			if e.Kind != asks {
				e.C = of(commands(), n).C
			}
			if e.Kind != sees {
				e.V = of(samples(), n>>8).V
			}
			if e.Kind != asks && e.Kind != sees {
				e.P = of(powers(), n>>16)
			}
			if e.Kind != turns {
				e.At = int(n >> 24)
			}
			noisy = append(noisy, of(noKinds(), n>>32), e)
		}
		f := Run(Begin(2, 50), l)
		if g := Run(Begin(2, 50), l); !sameFlight(f, g) {
			t.Fatalf("flight %d, told twice: %+v and %+v", seed, f, g)
		}
		if g := Run(Begin(2, 50), noisy); !sameFlight(f, g) {
			t.Fatalf("flight %d: %+v, and told with more: %+v", seed, f, g)
		}
		// Replies that are there already change none of those that come.
		old := []Reply{{E: 7, Phase: 9}, {}}
		if g := Run(Flight{X: Begin(2, 50).X, Out: old}, l); g.X != f.X || !slices.Equal(g.Out, append(old, f.Out...)) {
			t.Fatalf("flight %d behind other replies: %+v", seed, g)
		}
	}
}

// roomy is f with a list of replies that has room for more, so that adding to it needs no new memory.
func roomy(f Flight) (Flight, []Reply) {
	room := make([]Reply, len(f.Out)+80)
	for i := range room {
		room[i].E = 77
	}
	copy(room, f.Out)
	return Flight{X: f.X, Out: room[:len(f.Out)]}, room
}

func TestWhatIsHandedInStays(t *testing.T) {
	for seed, plain := range flights() {
		f, room := roomy(plain)
		was := slices.Clone(room)
		l := longFlight(30, uint64(seed))
		old := slices.Clone(l)
		a, b := Run(f, l), Step(f, restart())
		c, d := Run(f, l[15:]), Run(f, nil)
		if !sameFlight(f, plain) || !slices.Equal(room, was) || !sameEntries(l, old) {
			t.Fatalf("what was handed in changed: %+v", f)
		}
		if !sameFlight(a, ran(plain, l)) || !sameFlight(b, stepped(plain, restart())) || !sameFlight(c, ran(plain, l[15:])) || !sameFlight(d, plain) {
			t.Fatalf("two flights that go on from %+v change each other", plain)
		}
	}
}

// sameEntries tells whether two lists are alike; numbers that are none are alike here.
func sameEntries(l, m []Entry) bool {
	alike := func(a, b float64) bool { return math.Float64bits(a) == math.Float64bits(b) }
	return slices.EqualFunc(l, m, func(a, b Entry) bool {
		return a.Kind == b.Kind && a.At == b.At && a.P == b.P && a.C.Kind == b.C.Kind && a.C.N == b.C.N &&
			alike(a.C.Lat, b.C.Lat) && alike(a.C.Lon, b.C.Lon) && alike(a.V.Alt, b.V.Alt) && alike(a.V.Speed, b.V.Speed) && alike(a.V.Thrust, b.V.Thrust)
	})
}

func TestAnAnswerIsNewMemory(t *testing.T) {
	for _, plain := range flights() {
		f, _ := roomy(plain)
		for _, answer := range []func() Flight{
			func() Flight { return Step(f, restart()) },
			func() Flight { return Step(f, Entry{}) },
			func() Flight { return Run(f, nil) },
			func() Flight { return Run(f, []Entry{does(toIsolate, 1), shows(0)}) },
			func() Flight { return Run(f, noKinds()) },
		} {
			g := answer()
			for i := range g.Out {
				g.Out[i] = Reply{E: 55}
			}
			_ = append(g.Out, Reply{E: 56})
			if !sameFlight(f, plain) {
				t.Fatalf("an answer shares the replies of %+v", plain)
			}
			for i := range f.Out {
				f.Out[i] = Reply{E: 57}
			}
			for _, r := range g.Out {
				if r != (Reply{E: 55}) {
					t.Fatalf("an answer shares the replies of %+v", plain)
				}
			}
			f, _ = roomy(plain)
		}
	}
}

func TestTwoFlightsGoOnFromOne(t *testing.T) {
	f := Run(Begin(2, 99), append(times(3, shows(grounded)), does(toArm, 0)))
	was := copyOf(f)
	g := Step(f, does(toGo, hover))
	h := Step(f, does(toGo, land))
	i := Step(Step(g, does(toIsolate, 0)), does(toGo, land))
	if !sameFlight(f, was) || len(g.Out) != 5 || len(h.Out) != 5 || len(i.Out) != 7 {
		t.Fatalf("%+v, %+v, %+v, %+v", f, g, h, i)
	}
	if g.Out[4] != (Reply{Phase: runs, S: inAir(hover, 0)}) || h.Out[4] != (Reply{Phase: runs, S: inAir(land, 0)}) || i.Out[6] != (Reply{Phase: runs, S: inAir(land, 1)}) {
		t.Errorf("%+v, %+v, %+v", g, h, i)
	}
}

func TestNilRepliesAreAsNone(t *testing.T) {
	for _, l := range [][]Entry{nil, {restart()}, {{}}, {does(toIsolate, 1), turned(5)}} {
		x := Begin(2, 9).X
		if f, g := Run(Flight{X: x}, l), Run(Flight{X: x, Out: []Reply{}}, l); !sameFlight(f, g) {
			t.Errorf("%+v and %+v", f, g)
		}
	}
}
