package super

import (
	"encoding/binary"
	"hash/crc32"
	"math"
	"strings"
	"testing"

	"dogwatch/api"
	"dogwatch/command"
	"dogwatch/debounce"
	"dogwatch/flash"
	"dogwatch/journal"
	"dogwatch/plan"
	"dogwatch/power"
	"dogwatch/resolve"
	"dogwatch/state"
	"dogwatch/vote"
)

// The numbers of the document, by themselves: the phases, the modes, the kinds of commands, the verdicts, the errors, and how far a home may be from 0, in steps.
const (
	holds = iota
	runs
	fails
	isOff
)

const (
	idle = iota
	manual
	hover
	auto
	back
	land
)

const (
	toGo = 1 + iota
	toArm
	toDisarm
	toHome
	toIsolate
	toRestore
)

const (
	unknown = iota
	grounded
	airborne
)

const (
	argError    = 1
	nanError    = 12
	rangeError  = 13
	modeError   = 20
	armedError  = 21
	unarmError  = 22
	homeError   = 23
	sensorError = 24
	holdError   = 25
	failedError = 26
)

const (
	northmost = 737280
	eastmost  = 1474560
	most      = math.MaxUint64
	place     = 24
)

// The oracle: what the document says, sentence by sentence. It reads a flash by its bytes alone, and writes to it op by op.

// bodyOf is the 22 bytes of a record ahead of its mark.
func bodyOf(kind byte, seq, data uint64) string {
	s := binary.BigEndian.AppendUint64([]byte{165, kind}, seq)
	s = binary.BigEndian.AppendUint64(s, data)
	return string(binary.LittleEndian.AppendUint32(s, crc32.ChecksumIEEE(s)))
}

// rec is the bytes of a record that was written whole.
func rec(kind byte, seq, data uint64) string {
	return bodyOf(kind, seq, data) + "\x5a\x3c"
}

// unmarked is the bytes of a record whose mark was not written.
func unmarked(kind byte, seq, data uint64) string {
	return bodyOf(kind, seq, data) + "\xff\xff"
}

// stands is the record that these 24 bytes are; its kind is 0, if they are none.
func stands(s string) (kind byte, seq, data uint64) {
	seq, data = binary.BigEndian.Uint64([]byte(s[2:10])), binary.BigEndian.Uint64([]byte(s[10:18]))
	if kind = s[1]; kind < 1 || kind > 3 || s != rec(kind, seq, data) {
		return 0, 0, 0
	}
	return kind, seq, data
}

// bankTells is the generation of a bank, and the data of its last record.
func bankTells(s string) (generation, data uint64, ok bool) {
	if len(s)%place != 0 || len(s) < 2*place || len(s) > 13*place {
		return 0, 0, false
	}
	kind, generation, _ := stands(s[:place])
	if kind != 1 {
		return 0, 0, false
	}
	last := uint64(0)
	for s = s[place:]; s != ""; s = s[place:] {
		if kind, seq, n := stands(s[:place]); kind >= 2 && (!ok || seq >= last) {
			last, data, ok = seq, n, true
		}
	}
	return generation, data, ok
}

// told is the number that a flash tells, if it tells one.
func told(f flash.Flash) (uint64, bool) {
	g0, n0, ok0 := bankTells(f.Banks[0])
	g1, n1, ok1 := bankTells(f.Banks[1])
	if ok1 && (!ok0 || g1 > g0) {
		return n1, true
	}
	return n0, ok0
}

// packed is a legal state as a number.
func packed(s state.State) uint64 {
	first := s.Mode
	if s.Armed {
		first += 8
	}
	if s.Home {
		first += 16
	}
	return uint64(first)<<56 + uint64(s.Iso)<<48 + uint64(s.Lat&0xFFFFFF)<<24 + uint64(s.Lon&0xFFFFFF)
}

// signed is the lowest three bytes of n, in two's complement.
func signed(n uint64) int {
	out := int(n % (1 << 24))
	if out >= 1<<23 {
		out -= 1 << 24
	}
	return out
}

// unpacked is the legal state whose number is n, if there is one.
func unpacked(n uint64) (state.State, bool) {
	first := n >> 56
	s := state.State{Mode: int(first % 8), Armed: first/8%2 == 1, Home: first/16%2 == 1, Iso: int(n >> 48 % 256), Lat: signed(n >> 24), Lon: signed(n)}
	switch {
	case first > 31, s.Mode > 5, s.Iso > 15, max(s.Lat, -s.Lat) > northmost, max(s.Lon, -s.Lon) > eastmost:
		return state.State{}, false
	case !s.Home && (s.Lat != 0 || s.Lon != 0):
		return state.State{}, false
	}
	return s, true
}

// booted is what P20.1 says of Boot.
func booted(f flash.Flash) Super {
	x := Super{F: f}
	if n, ok := told(f); ok {
		x.S, _ = unpacked(n)
	}
	return x
}

// kept is what P20.1 says of Kept.
func kept(x Super) bool {
	n, ok := told(x.F)
	return ok && n == packed(x.S)
}

// put writes a number to a flash op by op, and tells whether it is acknowledged, and whether it could be begun.
func put(f flash.Flash, n uint64, p Power) (g flash.Flash, acked, begun bool) {
	ops, err := plan.Plan(f, n)
	if err != 0 {
		return f, false, false
	}
	for i, o := range ops {
		if i == p.Cut {
			f, _ = power.Tear(f, o, p.Mask)
			return f, false, true
		}
		f, _ = power.Do(f, o)
	}
	now, ok := told(f)
	return f, ok && now == n, true
}

// wrote is what P20.2 says of Write.
func wrote(x Super, t state.State, p Power) (Super, api.Errno) {
	f, acked, begun := put(x.F, packed(t), p)
	if !begun {
		return Super{F: x.F, S: x.S, Phase: 2, Votes: x.Votes}, 26
	}
	if !acked {
		return Super{F: f, S: x.S, Phase: 3, Votes: x.Votes}, 26
	}
	return Super{F: f, S: t, Phase: x.Phase, Votes: x.Votes}, 0
}

// asked is what P20.3 says of Command.
func asked(x Super, c command.Command, p Power) (Super, api.Errno) {
	if x.Phase == 2 || x.Phase == 3 {
		return x, 26
	}
	if x.Phase == 0 && c.Kind >= 1 && c.Kind <= 3 {
		return x, 25
	}
	t, err := command.Delta(x.S, c)
	if err != 0 || t == x.S {
		return x, err
	}
	return wrote(x, t, p)
}

// seen is what P20.4 says of Sample.
func seen(x Super, s vote.Sample, p Power) (Super, api.Errno) {
	if x.Phase == 3 {
		return x, 26
	}
	x.Votes = debounce.Add(x.Votes, vote.Vote(s))
	if verdict := x.Votes.Vote; x.Phase == 0 && x.Votes.N >= 3 && (verdict == 1 || verdict == 2) {
		t := resolve.Resolve(x.S, verdict)
		if t == x.S && kept(x) {
			x.Phase = 1
			return x, 0
		}
		y, err := wrote(x, t, p)
		if err == 0 {
			y.Phase = 1
		}
		return y, err
	}
	return x, 0
}

// What the tests hand in.

// mixed is a number that hangs on seed alone.
func mixed(seed uint64) uint64 {
	seed += 0x9E3779B97F4A7C15
	seed = (seed ^ seed>>30) * 0xBF58476D1CE4E5B9
	seed = (seed ^ seed>>27) * 0x94D049BB133111EB
	return seed ^ seed>>31
}

// same is n times the byte b.
func same(n int, b byte) string {
	return strings.Repeat(string([]byte{b}), n)
}

// mixedText is n bytes that hang on seed alone.
func mixedText(n int, seed uint64) string {
	out := make([]byte, n)
	for i := range out {
		out[i] = byte(mixed(seed<<20 + uint64(i)))
	}
	return string(out)
}

// all is a mask that takes all of each op.
func all() string {
	return same(400, 255)
}

// whole is power that doesn't go.
func whole() Power {
	return Power{Cut: -1}
}

// gone is power that goes at once, so that nothing is written.
func gone() Power {
	return Power{Cut: 0}
}

// masks are such as take nothing, some, and all of an op.
func masks() []string {
	return []string{
		"", all(), same(400, 1), same(400, 254), "\x01", "\x00\x01", "\xff", "\x00\xff", "\x7f\xff", "\xfe" + same(399, 255),
		same(18, 255), same(24, 0) + same(376, 255), same(500, 255), mixedText(400, 1), mixedText(400, 2), mixedText(60, 3),
	}
}

// powers go at each op of a plan, with masks of all kinds, and at none.
func powers() []Power {
	out := []Power{whole(), {Cut: -2, Mask: all()}, {Cut: 6, Mask: "\xff"}, {Cut: 7}, {Cut: 100, Mask: all()}, {Cut: math.MaxInt}, {Cut: math.MinInt, Mask: all()}, {Cut: 1 << 32}, {Cut: -1 << 32}}
	for cut := range 6 {
		for _, mask := range masks() {
			out = append(out, Power{cut, mask})
		}
	}
	return out
}

// fewPowers go at none, and at the first ops of a plan.
func fewPowers() []Power {
	return []Power{whole(), gone(), {Cut: 1, Mask: "\xff"}, {Cut: 1, Mask: all()}, {Cut: 4, Mask: all()}}
}

// onGround is a state that stands, in Idle.
func onGround(iso int) state.State {
	return state.State{Iso: iso}
}

// inAir is a state that is armed, in a mode.
func inAir(mode, iso int) state.State {
	return state.State{Mode: mode, Armed: true, Iso: iso}
}

// homed is s with a home.
func homed(s state.State) state.State {
	s.Home, s.Lat, s.Lon = true, -1, 2
	return s
}

// states are legal ones of all modes, armed and not, with homes and without, with sensors isolated and sound.
func states() []state.State {
	var out []state.State
	for mode := range 6 {
		for _, armed := range []bool{false, true} {
			for _, iso := range []int{0, 1, 6, 7, 14, 15} {
				s := state.State{Mode: mode, Armed: armed, Iso: iso}
				far := s
				far.Home, far.Lat, far.Lon = true, northmost, -eastmost
				out = append(out, s, homed(s), far)
			}
		}
	}
	return out
}

// fewStates are one of each mode, and more that Delta and Resolve treat each in its way.
func fewStates() []state.State {
	return []state.State{
		{}, onGround(12), onGround(15), homed(onGround(7)), inAir(idle, 0), {Mode: manual},
		inAir(manual, 0), inAir(manual, 14), homed(inAir(manual, 3)), inAir(hover, 0), inAir(hover, 9), inAir(auto, 0), homed(inAir(auto, 8)), homed(inAir(auto, 6)),
		homed(inAir(back, 3)), inAir(land, 0), inAir(land, 15), {Mode: land, Iso: 1},
	}
}

// with is a flash to which a state was written.
func with(f flash.Flash, s state.State) flash.Flash {
	f, acked, err := journal.Put(f, journal.Step{Data: packed(s), Cut: -1})
	if !acked || err != 0 {
		panic("a state could not be written")
	}
	return f
}

// telling is a new flash of two slots that tells a state.
func telling(s state.State) flash.Flash {
	return with(flash.New(72, 9), s)
}

// filled is the bank of n slots that begins with these places; the others are blank.
func filled(n int, places ...string) string {
	s := strings.Join(places, "")
	return s + same((n+1)*place-len(s), 255)
}

// flashOf is a flash of these banks that may be erased often.
func flashOf(one, two string) flash.Flash {
	return flash.Flash{Banks: [2]string{one, two}, Erases: [2]int{3, 1}, Limit: 1000}
}

// turnedRound is f with its banks the other way round.
func turnedRound(f flash.Flash) flash.Flash {
	f.Banks[0], f.Banks[1] = f.Banks[1], f.Banks[0]
	f.Erases[0], f.Erases[1] = f.Erases[1], f.Erases[0]
	return f
}

// noStates are numbers that no state packs to.
func noStates() []uint64 {
	return []uint64{1, 1 << 24, 1 << 56 * 6, 1 << 56 * 7, 1 << 56 * 32, 1 << 48 * 16, 0x1000<<48 | 0x0B4001<<24, 0x1000<<48 | 0x168001, most, 1 << 63}
}

// journals are flashes that a journal wrote, to all of which one more state can be written: new ones, and those of one state and of some, up to full banks, and such as a cut left.
func journals() []flash.Flash {
	var out []flash.Flash
	for _, size := range []int{48, 72, 96, 312} {
		f := flash.New(size, 9)
		out = append(out, f)
		for i, s := range []state.State{{}, inAir(manual, 0), homed(inAir(auto, 8)), onGround(5), inAir(land, 15)} {
			f = with(f, s)
			out = append(out, f)
			torn, _, _ := put(f, packed(homed(s)), Power{1, "\xff"})
			worse, _, _ := put(f, packed(inAir(hover, i)), Power{0, mixedText(400, uint64(i))})
			out = append(out, torn, worse)
		}
	}
	return out
}

// strangers are flashes that tell no state: not new, with no record, with Data that is no state, with bytes that no journal wrote, and such as have no banks that count.
func strangers() []flash.Flash {
	out := []flash.Flash{
		{}, flash.New(0, 5), flash.New(24, 5), flash.New(70, 5), flash.New(400, 5),
		flashOf(filled(2, rec(1, 4, 0)), filled(2)),
		flashOf(filled(2, rec(1, 4, 0), unmarked(3, 9, packed(inAir(2, 0)))), filled(2)),
		flashOf(filled(2, unmarked(1, 4, 0), rec(3, 9, packed(inAir(2, 0)))), filled(2)),
		flashOf(filled(2, "", rec(3, 9, packed(inAir(2, 0)))), filled(2)),
		flashOf(same(72, 0), same(72, 0)),
		flashOf(mixedText(72, 4), mixedText(72, 5)),
		flashOf(mixedText(71, 6), mixedText(400, 7)),
	}
	for _, n := range noStates() {
		f := flashOf(filled(2, rec(1, 4, 0), rec(3, 9, n)), filled(2))
		out = append(out, f, turnedRound(f), flashOf(filled(2, rec(1, 4, 0), rec(3, 9, n)), filled(2, rec(1, 3, 0), rec(3, 8, packed(inAir(2, 0))))))
	}
	good := telling(homed(inAir(manual, 0)))
	for at := range 48 {
		f := good
		f.Banks[0] = f.Banks[0][:at] + string([]byte{^f.Banks[0][at]}) + f.Banks[0][at+1:]
		out = append(out, f)
	}
	return out
}

// unwritable are flashes to which nothing can be written: worn, spent, or uneven, with a state and without.
func unwritable() []flash.Flash {
	s := packed(inAir(manual, 0))
	full := [2]string{filled(2, rec(1, 4, 0), rec(3, 9, 0), rec(2, 10, s)), filled(2, rec(1, 3, 0), rec(3, 8, 0))}
	spent := flashOf(filled(2, rec(1, 4, 0), rec(3, most, s)), filled(2))
	return []flash.Flash{
		flash.New(72, 0), flash.New(48, 0),
		{Banks: full, Erases: [2]int{0, 5}, Limit: 5},
		{Banks: full, Erases: [2]int{7, 8}, Limit: 5},
		{Banks: full, Limit: -1},
		spent, turnedRound(spent),
		flashOf(filled(1, rec(1, most, 0), rec(3, 9, s)), filled(1)),
		flashOf(filled(2, rec(1, 4, 0), rec(3, 9, s)), ""),
		flashOf(filled(2, rec(1, 4, 0), rec(3, 9, 0)), filled(3)),
		{}, flash.New(24, 9),
	}
}

// everyFlash is flashes of all kinds.
func everyFlash() []flash.Flash {
	return append(append(journals(), strangers()...), unwritable()...)
}

// phases are all of them, and numbers that are none.
func phases() []int {
	return []int{holds, runs, fails, isOff, 4, -1, math.MaxInt, math.MinInt}
}

// counts are such as votes make, and such as they don't.
func counts() []debounce.Count {
	return []debounce.Count{
		{}, {Vote: 1, N: 1}, {Vote: 1, N: 2}, {Vote: 1, N: 3}, {Vote: 2, N: 1}, {Vote: 2, N: 2}, {Vote: 2, N: 3},
		{Vote: 2, N: 9}, {Vote: 1, N: math.MaxInt}, {Vote: 2, N: math.MinInt}, {Vote: 0, N: 3}, {Vote: 7, N: 3}, {Vote: -1, N: 2}, {N: -1},
	}
}

// does is a command of a kind, with a number.
func does(kind, n int) command.Command {
	return command.Command{Kind: kind, N: n}
}

// homeAt is a command that sets the home.
func homeAt(lat, lon float64) command.Command {
	return command.Command{Kind: toHome, Lat: lat, Lon: lon}
}

// commands are all kinds, with right numbers and wrong ones, and such as are no kinds.
func commands() []command.Command {
	nan, inf := math.NaN(), math.Inf(1)
	out := []command.Command{
		does(toArm, 0), does(toDisarm, 0), does(toArm, -7), does(toDisarm, 99),
		homeAt(0, 0), homeAt(0.5, -1), homeAt(-1/8192., 2/8192.), homeAt(90, -180), homeAt(90.5, 0), homeAt(0, 180.5), homeAt(nan, 0), homeAt(0, nan), homeAt(inf, 0), homeAt(0, -inf),
	}
	for _, n := range []int{0, 1, 2, 3, 4, 5, 6, -1, math.MaxInt, math.MinInt} {
		out = append(out, does(toGo, n), does(toIsolate, n), does(toRestore, n))
	}
	return append(out, noKinds()...)
}

// noKinds are commands of no kind.
func noKinds() []command.Command {
	var out []command.Command
	for _, kind := range []int{0, -1, -2, 7, 8, 9, 255, 256, 257, 258, 1<<32 + 2, 1<<62 + 2, math.MinInt, math.MaxInt} {
		out = append(out, does(kind, 0), does(kind, 1))
	}
	return out
}

// standing and flying are samples that say so.
func standing() []vote.Sample {
	return []vote.Sample{{}, {Alt: 0.5, Speed: -0.5, Thrust: 0.1}, {Alt: math.Inf(-1), Thrust: math.Inf(-1)}, {Alt: -3}}
}

func flying() []vote.Sample {
	return []vote.Sample{{Alt: 10, Thrust: 0.5}, {Alt: 9, Speed: 9}, {Speed: -4, Thrust: 1}, {Alt: math.Inf(1), Speed: math.Inf(-1)}}
}

// quiet are samples that say nothing, broken ones among them.
func quiet() []vote.Sample {
	nan := math.NaN()
	return []vote.Sample{{Alt: 1.5}, {Alt: 10}, {Speed: 2}, {Thrust: 0.2}, {Alt: nan, Speed: 9, Thrust: 9}, {Alt: nan}, {Speed: nan}, {Thrust: nan}, {Alt: 9, Speed: 9, Thrust: nan}, {Alt: math.Inf(1)}}
}

// samples are all of these.
func samples() []vote.Sample {
	return append(append(standing(), flying()...), quiet()...)
}

// sampleOf is a sample of a vote.
func sampleOf(v int) vote.Sample {
	return [3]vote.Sample{{Alt: 1.5}, {}, {Alt: 10, Thrust: 0.5}}[v]
}

// running is a supervisor that runs, with a state that its flash tells.
func running(s state.State) Super {
	return Super{F: telling(s), S: s, Phase: runs, Votes: debounce.Count{Vote: airborne, N: 3}}
}

// holding is a supervisor that holds, with a state that its flash tells, and votes.
func holding(s state.State, v, n int) Super {
	return Super{F: telling(s), S: s, Phase: holds, Votes: debounce.Count{Vote: v, N: n}}
}

// in is x in another phase.
func in(x Super, phase int) Super {
	x.Phase = phase
	return x
}

// on is x with another flash.
func on(x Super, f flash.Flash) Super {
	x.F = f
	return x
}

// everySuper calls f of supervisors of all phases, with flashes of all kinds, each with the state that it tells and with others.
func everySuper(f func(x Super)) {
	for i, g := range everyFlash() {
		for j, s := range []state.State{booted(g).S, {}, fewStates()[i%len(fewStates())], homed(inAir(auto, 0))} {
			for k, phase := range phases() {
				f(Super{F: g, S: s, Phase: phase, Votes: counts()[(i+j+k)%len(counts())]})
			}
		}
	}
}

// checks tell where a call does not come to this; they tell whether it does.
func check(t *testing.T, what string, x, got Super, err api.Errno, want Super, wantErr api.Errno) bool {
	t.Helper()
	if got != want || err != wantErr {
		t.Errorf("%s of %+v:\n%+v and error %d, not\n%+v and error %d", what, x, got, err, want, wantErr)
		return false
	}
	return true
}

func checkWrite(t *testing.T, x Super, s state.State, p Power, want Super, wantErr api.Errno) bool {
	t.Helper()
	got, err := Write(x, s, p)
	return check(t, "Write", x, got, err, want, wantErr)
}

func checkCommand(t *testing.T, x Super, c command.Command, p Power, want Super, wantErr api.Errno) bool {
	t.Helper()
	got, err := Command(x, c, p)
	return check(t, "Command", x, got, err, want, wantErr)
}

func checkSample(t *testing.T, x Super, s vote.Sample, p Power, want Super, wantErr api.Errno) bool {
	t.Helper()
	got, err := Sample(x, s, p)
	return check(t, "Sample", x, got, err, want, wantErr)
}

// refuses tells where a command is not refused with this error, x staying, wherever the power would go.
func refuses(t *testing.T, x Super, c command.Command, want api.Errno) {
	t.Helper()
	for _, p := range fewPowers() {
		checkCommand(t, x, c, p, x, want)
	}
}

func TestPhasesAndErrorsAreNumbered(t *testing.T) {
	if Hold != holds || Run != runs || Failed != fails || Off != isOff {
		t.Error("the phases have other numbers")
	}
	if api.ErrHold != holdError || api.ErrFailed != failedError {
		t.Error("the errors have other numbers")
	}
}

// P20.1

func TestBootOfNew(t *testing.T) {
	for _, size := range []int{0, 24, 48, 72, 312, 336, 400} {
		f := flash.New(size, 9)
		if x := Boot(f); x != (Super{F: f}) || x.Phase != holds || x.S != (state.State{}) || Kept(x) {
			t.Errorf("Boot of a new flash of %d bytes: %+v", size, x)
		}
	}
}

func TestBootOfStates(t *testing.T) {
	for _, s := range states() {
		for _, f := range []flash.Flash{telling(s), with(telling(onGround(1)), s), with(telling(s), s), with(with(telling(onGround(1)), onGround(2)), s), with(flash.New(48, 1), s)} {
			x := Boot(f)
			if x != (Super{F: f, S: s}) || !Kept(x) {
				t.Fatalf("Boot of a flash of %+v: %+v", s, x)
			}
		}
	}
}

func TestBootOfDataThatIsNoState(t *testing.T) {
	for _, n := range noStates() {
		f, _, _ := journal.Put(flash.New(72, 9), journal.Step{Data: n, Cut: -1})
		g, _, _ := journal.Put(telling(inAir(hover, 0)), journal.Step{Data: n, Cut: -1})
		for _, f := range []flash.Flash{f, g} {
			if now, ok := told(f); !ok || now != n {
				t.Fatalf("the flash tells %#x", now)
			}
			if x := Boot(f); x != (Super{F: f}) || Kept(x) {
				t.Errorf("Boot of a flash of %#x: %+v", n, x)
			}
		}
	}
}

func TestBootOfTheBankThatCounts(t *testing.T) {
	old, young := inAir(hover, 0), homed(inAir(auto, 8))
	for _, f := range []flash.Flash{
		flashOf(filled(2, rec(1, 4, 0), rec(3, 9, packed(old))), filled(2, rec(1, 5, 0), rec(3, 2, packed(young)))),
		flashOf(filled(2, rec(1, 4, 0), rec(3, 9, 1), rec(2, 10, packed(young))), filled(2, rec(1, 4, 0), rec(3, 99, packed(old)))),
		flashOf(filled(2, rec(1, 4, 0), rec(3, 10, packed(young)), rec(2, 9, packed(old))), filled(2)),
		flashOf(filled(2, unmarked(1, 9, 0), rec(3, 9, packed(old))), filled(2, rec(1, 5, 0), rec(3, 2, packed(young)))),
		flashOf(filled(2, rec(1, 4, 0), rec(3, 9, packed(young)), unmarked(2, 10, packed(old))), filled(2)),
	} {
		if x := Boot(f); x != (Super{F: f, S: young}) || !Kept(x) {
			t.Errorf("Boot of %+v: %+v", f, x)
		}
	}
}

func TestBootOfAllFlashes(t *testing.T) {
	for _, f := range append(everyFlash(), journals()...) {
		if x := Boot(f); x != booted(f) {
			t.Errorf("Boot of %+v: %+v", f, x)
		}
		if x := Boot(turnedRound(f)); x != booted(turnedRound(f)) {
			t.Errorf("Boot of %+v: %+v", turnedRound(f), x)
		}
	}
}

func TestKeptOfKnown(t *testing.T) {
	s := state.State{Mode: auto, Armed: true, Home: true, Lat: -1, Lon: 2, Iso: 8}
	if !Kept(Super{F: telling(s), S: s}) {
		t.Error("what stands in the flash is not kept")
	}
	for i, x := range []state.State{
		{Mode: back, Armed: true, Home: true, Lat: -1, Lon: 2, Iso: 8},
		{Mode: auto, Home: true, Lat: -1, Lon: 2, Iso: 8},
		{Mode: auto, Armed: true, Iso: 8},
		{Mode: auto, Armed: true, Home: true, Lat: 1, Lon: 2, Iso: 8},
		{Mode: auto, Armed: true, Home: true, Lat: -1, Lon: -2, Iso: 8},
		{Mode: auto, Armed: true, Home: true, Lat: -1, Lon: 2},
		{},
	} {
		if Kept(Super{F: telling(s), S: x}) || Kept(Super{F: telling(x), S: s}) {
			t.Errorf("%d: %+v is kept", i, x)
		}
	}
	// The zero state packs to 0, which is not what a flash tells that tells nothing.
	zero := telling(state.State{})
	if !Kept(Super{F: zero}) || Kept(Super{F: flash.New(72, 9)}) || Kept(Super{}) {
		t.Error("Kept of the zero state")
	}
}

func TestKeptOfAll(t *testing.T) {
	came := map[bool]int{}
	everySuper(func(x Super) {
		if Kept(x) != kept(x) {
			t.Fatalf("Kept(%+v) = %v", x, Kept(x))
		}
		came[Kept(x)]++
	})
	if came[true] < 100 || came[false] < 100 {
		t.Errorf("kept are %d, not kept %d", came[true], came[false])
	}
}

func TestKeptAsksForNoPhaseAndNoVotes(t *testing.T) {
	for _, phase := range phases() {
		for _, c := range counts() {
			s := homed(inAir(back, 3))
			if !Kept(Super{F: telling(s), S: s, Phase: phase, Votes: c}) || Kept(Super{F: telling(s), S: inAir(back, 3), Phase: phase, Votes: c}) {
				t.Errorf("Kept in phase %d with %+v", phase, c)
			}
		}
	}
}

// P20.2

func TestWriteOfKnownBytes(t *testing.T) {
	x := Super{F: flash.New(72, 9), Phase: runs, Votes: debounce.Count{Vote: 2, N: 3}}
	s := state.State{Mode: auto, Armed: true, Home: true, Lat: -1, Lon: 2, Iso: 5}
	y := x
	y.F = flash.Flash{Banks: [2]string{filled(2, rec(1, 1, 0), rec(3, 1, 0x1B05FFFFFF000002)), filled(2)}, Erases: [2]int{1, 0}, Limit: 9}
	y.S = s
	checkWrite(t, x, s, whole(), y, 0)
	z := y
	z.F.Banks[0] = filled(2, rec(1, 1, 0), rec(3, 1, 0x1B05FFFFFF000002), rec(2, 2, 0x0D00000000000000))
	z.S = inAir(land, 0)
	checkWrite(t, y, inAir(land, 0), whole(), z, 0)
	last := z
	last.F.Banks[1], last.F.Erases[1] = filled(2, rec(1, 2, 0), rec(3, 3, 0)), 1
	last.S = state.State{}
	checkWrite(t, z, state.State{}, whole(), last, 0)
}

func TestWriteThatIsAcknowledged(t *testing.T) {
	for _, phase := range phases() {
		for _, c := range counts() {
			for _, s := range fewStates() {
				x := Super{F: telling(inAir(hover, 1)), S: inAir(hover, 1), Phase: phase, Votes: c}
				want := Super{F: with(x.F, s), S: s, Phase: phase, Votes: c}
				if !checkWrite(t, x, s, whole(), want, 0) || !Kept(want) {
					return
				}
			}
		}
	}
}

func TestWriteOfTheSameStateIsWrittenAnew(t *testing.T) {
	x := running(inAir(hover, 1))
	checkWrite(t, x, x.S, whole(), on(x, with(x.F, x.S)), 0)
	checkWrite(t, x, x.S, gone(), in(on(x, bodyTorn(x.F, unmarked(2, 2, packed(x.S)), "")), isOff), failedError)
}

// bodyTorn is a flash of two slots of which the second slot of bank 0 has what the mask takes of these bytes.
func bodyTorn(f flash.Flash, s, mask string) flash.Flash {
	f, _ = power.Tear(f, power.Op{Kind: power.Program, Bank: 0, At: 48, Data: s[:22]}, mask)
	return f
}

func TestWriteThatIsCut(t *testing.T) {
	old, young := inAir(hover, 0), homed(inAir(auto, 8))
	x := running(old)
	body, whatCame := unmarked(2, 2, packed(young)), with(x.F, young)
	for i, c := range []struct {
		p    Power
		want flash.Flash
	}{
		{Power{Cut: 0}, x.F},
		{Power{0, "\xff\xff\xff"}, bodyTorn(x.F, body, "\xff\xff\xff")},
		{Power{0, all()}, bodyTorn(x.F, body, all())},
		{Power{Cut: 1}, bodyTorn(x.F, body, all())},
		{Power{1, "\xff"}, byteChanged(whatCame, 71, 255)},
		{Power{1, "\x00\xff"}, byteChanged(whatCame, 70, 255)},
		// All of the last op is done, and nobody knows.
		{Power{1, all()}, whatCame},
	} {
		got, err := Write(x, young, c.p)
		want := Super{F: c.want, S: old, Phase: isOff, Votes: x.Votes}
		if got != want || err != failedError {
			t.Errorf("%d: %+v and error %d, not %+v", i, got, err, want)
		}
	}
	y, _ := Write(x, young, Power{1, all()})
	if Kept(y) || Boot(y.F).S != young {
		t.Error("what was in flight was lost, or is said to be kept")
	}
	y, _ = Write(x, young, Power{1, "\xff"})
	if !Kept(y) || Boot(y.F).S != old {
		t.Error("what was acknowledged is not kept")
	}
}

// byteChanged is f with one byte of its bank 0 changed.
func byteChanged(f flash.Flash, at int, b byte) flash.Flash {
	s := f.Banks[0]
	f.Banks[0] = s[:at] + string([]byte{b}) + s[at+1:]
	return f
}

func TestWriteThatIsCutIsOffInAllPhases(t *testing.T) {
	for _, phase := range phases() {
		x := in(running(inAir(hover, 0)), phase)
		checkWrite(t, x, inAir(land, 0), gone(), in(x, isOff), failedError)
		fresh := Super{F: flash.New(72, 9), Phase: phase}
		want := in(fresh, isOff)
		want.F.Erases[0] = 1
		checkWrite(t, fresh, inAir(land, 0), gone(), want, failedError)
	}
}

func TestWriteThatGoesWrong(t *testing.T) {
	for _, f := range unwritable() {
		for _, phase := range phases() {
			for _, s := range []state.State{{}, inAir(manual, 0), homed(inAir(auto, 8))} {
				x := Super{F: f, S: inAir(hover, 2), Phase: phase, Votes: debounce.Count{Vote: 1, N: 2}}
				want := Super{F: f, S: inAir(hover, 2), Phase: fails, Votes: debounce.Count{Vote: 1, N: 2}}
				for _, p := range fewPowers() {
					if !checkWrite(t, x, s, p, want, failedError) {
						return
					}
				}
			}
		}
	}
}

func TestWriteOfAllPowers(t *testing.T) {
	for _, f := range journals() {
		x := Boot(f)
		for _, p := range powers() {
			for _, s := range []state.State{x.S, homed(inAir(back, 1))} {
				want, err := wrote(x, s, p)
				if !checkWrite(t, x, s, p, want, err) {
					return
				}
			}
		}
	}
}

func TestWriteOfAllFlashes(t *testing.T) {
	everySuper(func(x Super) {
		for _, s := range []state.State{{}, x.S, homed(inAir(auto, 8))} {
			for _, p := range fewPowers() {
				want, err := wrote(x, s, p)
				if !checkWrite(t, x, s, p, want, err) {
					t.FailNow()
				}
			}
		}
	})
}

func TestWriteOfAllStates(t *testing.T) {
	x := running(inAir(hover, 0))
	for _, s := range states() {
		want, err := wrote(x, s, whole())
		if !checkWrite(t, x, s, whole(), want, err) || err != 0 || want.S != s || Boot(want.F).S != s {
			t.Fatalf("%+v is not written: %+v", s, want)
		}
	}
}

// P20.3

func TestCommandOfArmJustBooted(t *testing.T) {
	// The chapter's example, and the document's sixth.
	x := Boot(flash.New(72, 9))
	refuses(t, x, does(toArm, 0), holdError)
	if y, err := Command(x, does(toArm, 0), whole()); err != 25 || y.S.Mode != 0 || y.S.Iso != 0 {
		t.Errorf("%+v and error %d", y, err)
	}
}

func TestCommandsWhileItHolds(t *testing.T) {
	for _, s := range fewStates() {
		for _, x := range []Super{holding(s, 0, 0), holding(s, airborne, 2), holding(s, grounded, 3), on(holding(s, 0, 0), flash.New(72, 0)), on(holding(s, 0, 0), flash.New(72, 9))} {
			for _, n := range []int{0, 1, 2, 3, 4, 5, 6, -1, math.MaxInt, math.MinInt} {
				// It holds, whatever else would be told.
				refuses(t, x, does(toGo, n), holdError)
				refuses(t, x, does(toArm, n), holdError)
				refuses(t, x, does(toDisarm, n), holdError)
			}
		}
	}
	s := homed(inAir(manual, 1))
	x := holding(s, airborne, 2)
	for _, c := range []struct {
		c    command.Command
		want state.State
	}{
		{homeAt(0.5, -1), state.State{Mode: manual, Armed: true, Home: true, Lat: 4096, Lon: -8192, Iso: 1}},
		{does(toIsolate, 1), state.State{Mode: manual, Armed: true, Home: true, Lat: -1, Lon: 2, Iso: 3}},
		{does(toRestore, 0), state.State{Mode: manual, Armed: true, Home: true, Lat: -1, Lon: 2}},
	} {
		checkCommand(t, x, c.c, whole(), Super{F: with(x.F, c.want), S: c.want, Phase: holds, Votes: x.Votes}, 0)
		checkCommand(t, x, c.c, gone(), in(x, isOff), failedError)
		checkCommand(t, on(x, flash.New(72, 0)), c.c, whole(), in(on(x, flash.New(72, 0)), fails), failedError)
	}
	refuses(t, x, homeAt(math.NaN(), 0), nanError)
	refuses(t, x, homeAt(0, 181), rangeError)
	refuses(t, x, does(toIsolate, 4), argError)
	refuses(t, x, does(toRestore, -1), argError)
	refuses(t, holding(homed(inAir(auto, 8)), 0, 0), does(toIsolate, 0), sensorError)
	for _, c := range noKinds() {
		refuses(t, x, c, argError)
	}
}

func TestCommandsThatItDidFailOrThatItIsOff(t *testing.T) {
	for _, phase := range []int{fails, isOff} {
		for _, s := range fewStates() {
			for _, x := range []Super{in(running(s), phase), in(holding(s, grounded, 2), phase), {F: flash.New(72, 9), S: s, Phase: phase}} {
				for _, c := range commands() {
					refuses(t, x, c, failedError)
				}
			}
		}
	}
}

func TestCommandsThatAreRefused(t *testing.T) {
	inf := math.Inf(1)
	for _, c := range []struct {
		s    state.State
		c    command.Command
		want api.Errno
	}{
		{onGround(0), does(0, 0), argError},
		{onGround(0), does(7, 0), argError},
		{inAir(hover, 0), does(-1, 0), argError},
		{onGround(0), does(toIsolate, 4), argError},
		{inAir(manual, 3), does(toRestore, -1), argError},
		{onGround(0), homeAt(math.NaN(), 0), nanError},
		{inAir(hover, 0), homeAt(0, math.NaN()), nanError},
		{onGround(0), homeAt(91, 0), rangeError},
		{inAir(hover, 0), homeAt(0, -inf), rangeError},
		{onGround(0), does(toGo, auto), modeError},
		{inAir(manual, 0), does(toGo, 6), modeError},
		{inAir(hover, 0), does(toDisarm, 0), modeError},
		{homed(inAir(back, 0)), does(toGo, auto), modeError},
		{inAir(manual, 0), does(toArm, 0), armedError},
		{inAir(land, 0), does(toGo, idle), armedError},
		{onGround(0), does(toDisarm, 0), unarmError},
		{onGround(0), does(toGo, manual), unarmError},
		{inAir(manual, 0), does(toGo, auto), homeError},
		{inAir(hover, 0), does(toGo, back), homeError},
		{onGround(7), does(toArm, 0), sensorError},
		{inAir(manual, 7), does(toGo, hover), sensorError},
		{homed(inAir(auto, 8)), does(toIsolate, 0), sensorError},
	} {
		refuses(t, running(c.s), c.c, c.want)
		refuses(t, on(running(c.s), flash.New(72, 0)), c.c, c.want)
		refuses(t, on(running(c.s), flash.Flash{}), c.c, c.want)
	}
}

func TestCommandsWhoseStateItHasAlready(t *testing.T) {
	for _, c := range []struct {
		s state.State
		c command.Command
	}{
		{onGround(0), does(toGo, idle)},
		{inAir(manual, 0), does(toGo, manual)},
		{homed(inAir(auto, 0)), does(toGo, auto)},
		{inAir(land, 14), does(toGo, land)},
		{homed(inAir(hover, 0)), homeAt(-1/8192., 2/8192.)},
		{state.State{Home: true}, homeAt(0, math.Copysign(0, -1))},
		{onGround(5), does(toIsolate, 2)},
		{inAir(manual, 15), does(toIsolate, 3)},
		{onGround(5), does(toRestore, 1)},
		{inAir(hover, 0), does(toRestore, 0)},
	} {
		x := running(c.s)
		// Nothing is written, so that it counts neither where the power goes, nor whether the flash is worn, nor what it tells.
		refuses(t, x, c.c, 0)
		refuses(t, on(x, flash.New(72, 0)), c.c, 0)
		refuses(t, on(x, flash.New(72, 9)), c.c, 0)
		refuses(t, on(x, flash.Flash{}), c.c, 0)
		refuses(t, on(x, telling(homed(inAir(back, 1)))), c.c, 0)
		if c.c.Kind != toGo {
			refuses(t, in(x, holds), c.c, 0)
		}
	}
}

func TestCommandsThatAreDone(t *testing.T) {
	for _, c := range []struct {
		s    state.State
		c    command.Command
		want state.State
	}{
		{onGround(0), does(toArm, 0), inAir(manual, 0)},
		{onGround(12), does(toArm, 0), inAir(manual, 12)},
		{inAir(manual, 0), does(toGo, hover), inAir(hover, 0)},
		{homed(inAir(hover, 8)), does(toGo, auto), homed(inAir(auto, 8))},
		{homed(inAir(auto, 8)), does(toGo, back), homed(inAir(back, 8))},
		{inAir(hover, 0), does(toGo, land), inAir(land, 0)},
		{inAir(land, 3), does(toDisarm, 0), onGround(3)},
		{homed(inAir(manual, 0)), does(toDisarm, 0), homed(onGround(0))},
		{onGround(0), homeAt(-90, 180), state.State{Home: true, Lat: -northmost, Lon: eastmost}},
		{inAir(hover, 0), homeAt(0, 0), state.State{Mode: hover, Armed: true, Home: true}},
		{onGround(0), does(toIsolate, 3), onGround(8)},
		{inAir(manual, 15), does(toRestore, 2), inAir(manual, 11)},
	} {
		x := running(c.s)
		want := Super{F: with(x.F, c.want), S: c.want, Phase: runs, Votes: x.Votes}
		checkCommand(t, x, c.c, whole(), want, 0)
		checkCommand(t, x, c.c, Power{Cut: 2, Mask: all()}, want, 0)
		checkCommand(t, x, c.c, gone(), in(x, isOff), failedError)
		checkCommand(t, x, c.c, Power{Cut: 1, Mask: all()}, in(on(x, want.F), isOff), failedError)
		checkCommand(t, on(x, flash.New(72, 0)), c.c, whole(), in(on(x, flash.New(72, 0)), fails), failedError)
		checkCommand(t, on(x, flash.Flash{}), c.c, gone(), in(on(x, flash.Flash{}), fails), failedError)
	}
}

func TestCommandOfAllStates(t *testing.T) {
	for _, s := range states() {
		f := telling(s)
		for _, phase := range phases() {
			x := Super{F: f, S: s, Phase: phase, Votes: debounce.Count{Vote: 1, N: 3}}
			for _, c := range commands() {
				want, err := asked(x, c, whole())
				if !checkCommand(t, x, c, whole(), want, err) {
					return
				}
			}
		}
	}
}

func TestCommandOfAllFlashes(t *testing.T) {
	list := commands()
	n := 0
	everySuper(func(x Super) {
		for _, p := range fewPowers() {
			for range 9 {
				n++
				c := list[n%len(list)]
				want, err := asked(x, c, p)
				if !checkCommand(t, x, c, p, want, err) {
					t.FailNow()
				}
			}
		}
	})
}

func TestCommandOfAllPowers(t *testing.T) {
	for _, f := range journals() {
		for _, phase := range []int{holds, runs} {
			x := in(Boot(f), phase)
			for _, p := range powers() {
				for _, c := range []command.Command{homeAt(1, 1), does(toRestore, 3), does(toIsolate, 3), does(toArm, 0), does(toGo, land)} {
					want, err := asked(x, c, p)
					if !checkCommand(t, x, c, p, want, err) {
						return
					}
				}
			}
		}
	}
}

// P20.4

func TestSampleWhileItIsOff(t *testing.T) {
	for _, c := range counts() {
		for _, s := range samples() {
			for _, x := range []Super{in(running(inAir(hover, 0)), isOff), in(Boot(flash.New(72, 9)), isOff), {Phase: isOff}} {
				x.Votes = c
				for _, p := range fewPowers() {
					checkSample(t, x, s, p, x, failedError)
				}
			}
		}
	}
}

func TestSampleBehindTheVerdict(t *testing.T) {
	for _, phase := range []int{runs, fails, 4, -1, math.MaxInt} {
		for _, f := range []flash.Flash{telling(inAir(auto, 0)), flash.New(72, 9), flash.New(72, 0), {}} {
			x := Super{F: f, S: inAir(auto, 0), Phase: phase}
			for i, c := range []struct{ v, vote, n int }{
				{airborne, 2, 1}, {unknown, 2, 1}, {airborne, 2, 2}, {airborne, 2, 3}, {airborne, 2, 3}, {unknown, 2, 3},
				{grounded, 1, 1}, {grounded, 1, 2}, {airborne, 2, 1}, {grounded, 1, 1}, {grounded, 1, 2}, {grounded, 1, 3}, {grounded, 1, 3},
			} {
				want := x
				want.Votes = debounce.Count{Vote: c.vote, N: c.n}
				for _, p := range fewPowers() {
					if !checkSample(t, x, sampleOf(c.v), p, want, 0) {
						t.Fatalf("at vote %d", i)
					}
				}
				x = want
			}
		}
	}
}

func TestSampleWhileItHolds(t *testing.T) {
	// From a boot on, vote by vote: at which one it runs, by which verdict.
	for _, c := range []struct {
		votes   []int
		verdict int
	}{
		{[]int{2, 2, 2}, airborne},
		{[]int{1, 1, 1}, grounded},
		{[]int{0, 2, 0, 2, 0, 0, 2}, airborne},
		{[]int{2, 2, 1, 2, 2, 2}, airborne},
		{[]int{2, 2, 1, 1, 1}, grounded},
		{[]int{1, 1, 2, 1, 1, 2, 2, 1, 0, 1, 0, 1}, grounded},
		{[]int{1, 2, 1, 2, 1, 2, 1, 2, 1, 1, 1}, grounded},
	} {
		for _, s := range fewStates() {
			x := Boot(telling(s))
			for i, v := range c.votes {
				last := i == len(c.votes)-1
				was := x
				p := gone()
				if last {
					p = whole()
				}
				var err api.Errno
				x, err = Sample(x, sampleOf(v), p)
				if err != 0 || (x.Phase == runs) != last || !last && (x.F != was.F || x.S != was.S || x.Phase != holds) {
					t.Fatalf("%v, vote %d of %+v: %+v and error %d", c.votes, i, s, x, err)
				}
			}
			if want := resolve.Resolve(s, c.verdict); x.S != want || !Kept(x) || x.Votes != (debounce.Count{Vote: c.verdict, N: 3}) {
				t.Errorf("%v of %+v: %+v, not %+v", c.votes, s, x, want)
			}
		}
	}
}

func TestSampleThatMakesTheVerdict(t *testing.T) {
	// The document's fourth example: a craft that is armed, in Auto.
	inAuto := homed(inAir(auto, 0))
	up, down := holding(inAuto, airborne, 2), holding(inAuto, grounded, 2)
	checkSample(t, up, sampleOf(airborne), whole(), Super{F: up.F, S: inAuto, Phase: runs, Votes: debounce.Count{Vote: 2, N: 3}}, 0)
	checkSample(t, down, sampleOf(grounded), whole(), Super{F: with(down.F, homed(onGround(0))), S: homed(onGround(0)), Phase: runs, Votes: debounce.Count{Vote: 1, N: 3}}, 0)
	// One without a home goes to Hover.
	homeless := holding(inAir(auto, 0), airborne, 2)
	checkSample(t, homeless, sampleOf(airborne), whole(), Super{F: with(homeless.F, inAir(hover, 0)), S: inAir(hover, 0), Phase: runs, Votes: debounce.Count{Vote: 2, N: 3}}, 0)
	// One that stood, and flies.
	stood := holding(onGround(7), airborne, 2)
	checkSample(t, stood, sampleOf(airborne), whole(), Super{F: with(stood.F, inAir(land, 7)), S: inAir(land, 7), Phase: runs, Votes: debounce.Count{Vote: 2, N: 3}}, 0)
	// The vote of the other kind, and the one that says nothing, make none.
	for _, v := range []int{unknown, grounded} {
		want := up
		want.Votes = debounce.Add(up.Votes, v)
		checkSample(t, up, sampleOf(v), gone(), want, 0)
	}
}

func TestSampleOfWhatIsKeptAlready(t *testing.T) {
	for _, c := range []struct {
		s state.State
		v int
	}{
		{state.State{}, grounded}, {homed(onGround(15)), grounded}, {inAir(manual, 14), airborne}, {inAir(hover, 3), airborne},
		{homed(inAir(auto, 1)), airborne}, {homed(inAir(back, 6)), airborne}, {inAir(land, 15), airborne},
	} {
		x := holding(c.s, c.v, 2)
		want := in(x, runs)
		want.Votes.N = 3
		// Nothing is written, wherever the power would go, and where the flash is worn.
		for _, p := range fewPowers() {
			checkSample(t, x, sampleOf(c.v), p, want, 0)
			worn := x.F
			worn.Limit, worn.Banks[0] = 0, filled(1, rec(1, 4, 0), rec(3, 9, packed(c.s)))
			worn.Banks[1] = filled(1)
			checkSample(t, on(x, worn), sampleOf(c.v), p, on(want, worn), 0)
		}
		// The same state, which does not stand in the flash, is written.
		for _, f := range []flash.Flash{flash.New(72, 9), telling(homed(inAir(hover, 8))), flashOf(filled(2, rec(1, 4, 0), rec(3, 9, 1)), filled(2))} {
			checkSample(t, on(x, f), sampleOf(c.v), whole(), on(want, with(f, c.s)), 0)
			came, _, _ := put(f, packed(c.s), gone())
			checkSample(t, on(x, f), sampleOf(c.v), gone(), in(on(want, came), isOff), failedError)
		}
		checkSample(t, on(x, flash.New(72, 0)), sampleOf(c.v), whole(), in(on(want, flash.New(72, 0)), fails), failedError)
	}
}

func TestSampleWhoseWriteGoesWrong(t *testing.T) {
	for _, f := range unwritable() {
		for _, v := range []int{grounded, airborne} {
			x := Super{F: f, S: inAir(auto, 0), Votes: debounce.Count{Vote: v, N: 2}}
			want := Super{F: f, S: inAir(auto, 0), Phase: fails, Votes: debounce.Count{Vote: v, N: 3}}
			for _, p := range fewPowers() {
				checkSample(t, x, sampleOf(v), p, want, failedError)
			}
		}
	}
}

func TestSampleAtWhichThePowerGoes(t *testing.T) {
	for _, f := range journals() {
		for _, v := range []int{grounded, airborne} {
			x := Boot(f)
			x.Votes = debounce.Count{Vote: v, N: 2}
			for _, p := range powers() {
				want, err := seen(x, sampleOf(v), p)
				if !checkSample(t, x, sampleOf(v), p, want, err) {
					return
				}
			}
		}
	}
}

func TestSampleOfCountsThatAreHandedIn(t *testing.T) {
	// A count that is a verdict already ends the hold, also where the sample says nothing.
	for _, s := range fewStates() {
		for _, c := range counts() {
			for _, sample := range samples() {
				for _, phase := range phases() {
					x := Super{F: telling(s), S: s, Phase: phase, Votes: c}
					want, err := seen(x, sample, whole())
					if !checkSample(t, x, sample, whole(), want, err) {
						return
					}
				}
			}
		}
	}
	x := holding(inAir(hover, 0), airborne, 3)
	checkSample(t, x, vote.Sample{Alt: math.NaN()}, gone(), in(x, runs), 0)
	x = holding(inAir(hover, 0), 7, 3)
	checkSample(t, x, vote.Sample{Alt: math.NaN()}, whole(), x, 0)
}

func TestSampleOfAllStates(t *testing.T) {
	for _, s := range states() {
		for _, f := range []flash.Flash{telling(s), telling(homed(inAir(hover, 9))), flash.New(48, 1)} {
			for _, v := range []int{grounded, airborne} {
				x := Super{F: f, S: s, Votes: debounce.Count{Vote: v, N: 2}}
				for _, got := range []int{unknown, grounded, airborne} {
					want, err := seen(x, sampleOf(got), whole())
					if !checkSample(t, x, sampleOf(got), whole(), want, err) {
						return
					}
				}
			}
		}
	}
}

func TestSampleOfAllFlashes(t *testing.T) {
	everySuper(func(x Super) {
		for _, c := range []debounce.Count{x.Votes, {Vote: 1, N: 2}, {Vote: 2, N: 2}} {
			x.Votes = c
			for v := range 3 {
				for _, p := range fewPowers() {
					want, err := seen(x, sampleOf(v), p)
					if !checkSample(t, x, sampleOf(v), p, want, err) {
						t.FailNow()
					}
				}
			}
		}
	})
}

func TestSamplesWithoutANumberAreNoVotes(t *testing.T) {
	x := Boot(telling(inAir(hover, 0)))
	for range 9 {
		for _, s := range quiet() {
			checkSample(t, x, s, gone(), x, 0)
		}
	}
	// What is infinite is far above, or below, all.
	for i, c := range []struct {
		s vote.Sample
		v int
	}{
		{vote.Sample{Alt: math.Inf(1), Speed: math.Inf(-1)}, airborne},
		{vote.Sample{Speed: math.Inf(1), Thrust: math.Inf(1)}, airborne},
		{vote.Sample{Alt: math.Inf(-1), Thrust: math.Inf(-1)}, grounded},
	} {
		want := x
		want.Votes = debounce.Count{Vote: c.v, N: 1}
		if !checkSample(t, x, c.s, gone(), want, 0) {
			t.Error(i)
		}
	}
}

// P20.5

// flight is a supervisor from its boot on, and what is known beside it: the state that it had then, and those that its flash may tell.
type flight struct {
	t      *testing.T
	x      Super
	atBoot state.State
	last   state.State // that was said to be so, last; the zero one, if none was
	flies  state.State // that was being written when the power went
	cut    bool        // whether it did
}

// boots begins the flight anew, with what its flash has.
func (g *flight) boots() {
	g.t.Helper()
	x := Boot(g.x.F)
	if x.S != g.last && !(g.cut && x.S == g.flies) {
		g.t.Fatalf("behind a restart: %+v, not %+v, or %+v", x.S, g.last, g.flies)
	}
	if x.F != g.x.F || x.Phase != holds || x.Votes != (debounce.Count{}) {
		g.t.Fatalf("behind a restart: %+v", x)
	}
	g.x, g.atBoot = x, x.S
	// From here on what was read is what is so.
	g.last, g.cut = x.S, false
}

// goesOn holds what became of a call that was to make t the state against what follows.
func (g *flight) goesOn(y Super, err api.Errno, t state.State) {
	g.t.Helper()
	x := g.x
	switch {
	case err == 0 && y.S != x.S, err == 0 && y.F != x.F, err == 0 && y.Phase == runs:
		if !Kept(y) || y.S != t || Boot(y.F).S != y.S {
			g.t.Fatalf("%+v, said to be so, does not stand in the flash: %+v", y.S, y)
		}
		g.last, g.cut = y.S, false
	case err == 0:
		if y.Phase != x.Phase {
			g.t.Fatalf("from phase %d to %d", x.Phase, y.Phase)
		}
	case y.S != x.S:
		g.t.Fatalf("%+v became %+v beside the error %d", x.S, y.S, err)
	case y.Phase == isOff && x.Phase != isOff:
		g.flies, g.cut = t, true
	case y.F != x.F:
		g.t.Fatalf("bytes changed beside the error %d", err)
	}
	if y.Phase == holds && (y.S.Armed != g.atBoot.Armed || y.S.Mode != g.atBoot.Mode) {
		g.t.Fatalf("ahead of a verdict: %+v, from %+v", y.S, g.atBoot)
	}
	if y.Phase == runs && !Kept(y) {
		g.t.Fatalf("it runs, and does not keep %+v", y.S)
	}
	g.x = y
}

// asks hands in a command.
func (g *flight) asks(c command.Command, p Power) {
	g.t.Helper()
	t, refused := command.Delta(g.x.S, c)
	y, err := Command(g.x, c, p)
	want, wantErr := asked(g.x, c, p)
	if y != want || err != wantErr {
		g.t.Fatalf("Command %+v of %+v: %+v and error %d", c, g.x, y, err)
	}
	if refused != 0 && y != g.x {
		g.t.Fatalf("a command that was refused changed %+v to %+v", g.x, y)
	}
	g.goesOn(y, err, t)
}

// sees hands in a sample.
func (g *flight) sees(s vote.Sample, p Power) {
	g.t.Helper()
	y, err := Sample(g.x, s, p)
	want, wantErr := seen(g.x, s, p)
	if y != want || err != wantErr {
		g.t.Fatalf("Sample %+v of %+v: %+v and error %d", s, g.x, y, err)
	}
	t := g.x.S
	if g.x.Phase == holds {
		t = resolve.Resolve(t, debounce.Verdict(y.Votes))
		if y.Phase == runs && y.S.Armed != (y.Votes.Vote == airborne) {
			g.t.Fatalf("it runs, by the votes %+v, with %+v", y.Votes, y.S)
		}
	}
	g.goesOn(y, err, t)
}

func TestAFlightFromItsBoot(t *testing.T) {
	g := &flight{t: t, x: Super{F: flash.New(72, 99)}}
	g.boots()
	for _, c := range []command.Command{does(toArm, 0), does(toGo, manual), does(toDisarm, 0)} {
		g.asks(c, whole())
	}
	g.asks(homeAt(0.5, -1), whole())
	g.sees(sampleOf(grounded), whole())
	g.sees(sampleOf(airborne), whole())
	for range 3 {
		g.sees(sampleOf(grounded), whole())
	}
	for i, c := range []struct {
		c    command.Command
		want state.State
	}{
		{does(toArm, 0), state.State{Mode: manual, Armed: true, Home: true, Lat: 4096, Lon: -8192}},
		{does(toIsolate, 3), state.State{Mode: manual, Armed: true, Home: true, Lat: 4096, Lon: -8192, Iso: 8}},
		{does(toGo, auto), state.State{Mode: auto, Armed: true, Home: true, Lat: 4096, Lon: -8192, Iso: 8}},
		{does(toIsolate, 0), state.State{Mode: auto, Armed: true, Home: true, Lat: 4096, Lon: -8192, Iso: 8}},
		{does(toGo, back), state.State{Mode: back, Armed: true, Home: true, Lat: 4096, Lon: -8192, Iso: 8}},
		{does(toGo, land), state.State{Mode: land, Armed: true, Home: true, Lat: 4096, Lon: -8192, Iso: 8}},
		{does(toDisarm, 0), state.State{Home: true, Lat: 4096, Lon: -8192, Iso: 8}},
		{does(toRestore, 3), state.State{Home: true, Lat: 4096, Lon: -8192}},
	} {
		g.asks(c.c, whole())
		if g.x.S != c.want || g.x.Phase != runs {
			t.Fatalf("%d: %+v", i, g.x)
		}
		// A restart at each place tells the same, and is seen to fly, or to stand.
		for _, v := range []int{grounded, airborne} {
			h := *g
			h.boots()
			for range 3 {
				h.sees(sampleOf(v), whole())
			}
			if h.x.Phase != runs || h.x.S != resolve.Resolve(c.want, v) || h.x.S.Armed != (v == airborne) {
				t.Fatalf("%d, seen as %d: %+v", i, v, h.x)
			}
		}
	}
}

// ready is a flight on a flash that tells s, and runs.
func ready(t *testing.T, f flash.Flash, s state.State) *flight {
	return &flight{t: t, x: Super{F: with(f, s), S: s, Phase: runs}, last: s}
}

func TestPowerThatGoesAtEachOp(t *testing.T) {
	for _, size := range []int{48, 72, 96} {
		for _, p := range powers() {
			for _, c := range []command.Command{does(toGo, land), does(toDisarm, 0), does(toIsolate, 1), homeAt(1, 1)} {
				for _, v := range []int{grounded, airborne} {
					g := ready(t, flash.New(size, 9), inAir(manual, 0))
					g.asks(c, p)
					g.boots()
					// It goes once more, while it is resolved.
					for range 3 {
						g.sees(sampleOf(v), p)
					}
					g.boots()
					for range 3 {
						g.sees(sampleOf(v), whole())
					}
					if g.x.Phase != runs || g.x.S.Armed != (v == airborne) {
						t.Fatalf("power %+v at %+v: %+v", p, c, g.x)
					}
				}
			}
		}
	}
}

func TestNobodyIsArmedOrDisarmedAheadOfAVerdict(t *testing.T) {
	for _, s := range states() {
		g := &flight{t: t, x: Super{F: telling(s)}, last: s}
		g.boots()
		// Votes that never agree.
		for _, v := range []int{1, 1, 2, 2, 0, 1, 1, 0, 2} {
			g.sees(sampleOf(v), whole())
			for _, c := range []command.Command{does(toArm, 0), does(toDisarm, 0), does(toGo, manual), does(toGo, idle), does(toGo, land), does(toRestore, v), does(toIsolate, 1), homeAt(1, float64(v)), does(7, 0)} {
				g.asks(c, whole())
				if g.x.Phase != holds {
					t.Fatalf("%+v is in phase %d", s, g.x.Phase)
				}
			}
		}
		if g.x.S.Armed != s.Armed || g.x.S.Mode != s.Mode {
			t.Fatalf("%+v became %+v", s, g.x.S)
		}
	}
}

func TestACommandThatIsRefusedChangesNoByte(t *testing.T) {
	n := 0
	for i, s := range states() {
		f := []flash.Flash{telling(s), telling(homed(inAir(back, 0))), flash.New(48, 0), flashOf(mixedText(72, 1), mixedText(72, 2))}[i%4]
		for _, phase := range phases() {
			for _, c := range commands() {
				x := Super{F: f, S: s, Phase: phase, Votes: counts()[i%len(counts())]}
				_, refused := command.Delta(s, c)
				if refused == 0 && phase != fails && phase != isOff {
					continue
				}
				n++
				if y, err := Command(x, c, whole()); y != x || err == 0 {
					t.Fatalf("Command %+v of %+v: %+v and error %d", c, x, y, err)
				}
			}
		}
	}
	if n < 1000 {
		t.Errorf("only %d commands were refused", n)
	}
}

func TestLongFlights(t *testing.T) {
	came := map[int]int{}
	for seed := range uint64(400) {
		n := mixed(seed)
		f := flash.New([]int{48, 72, 96, 312}[n%4], []int{1000, 1000, 8, 2}[n>>2%4])
		g := &flight{t: t, x: Super{F: f}}
		g.boots()
		for step := range uint64(60) {
			n := mixed(seed<<8 | step | 1<<40)
			p := whole()
			if n%8 == 0 {
				p = Power{int(n >> 3 % 6), masks()[n>>6%uint64(len(masks()))]}
			}
			switch n >> 16 % 16 {
			case 0:
				g.boots()
			case 1, 2, 3, 4:
				// Votes of one kind for some time, so that verdicts come about.
				g.sees(sampleOf(1+int(seed+step/12)%2), p)
			case 5:
				g.sees(samples()[n>>20%uint64(len(samples()))], p)
			case 6:
				g.asks(commands()[n>>20%uint64(len(commands()))], p)
			case 7:
				for range 3 {
					g.sees(sampleOf(1+int(seed+step/12)%2), p)
				}
			default:
				g.asks(command.Command{Kind: int(n >> 20 % 7), N: int(n >> 24 % 6), Lat: float64(n>>28%180) - 90, Lon: float64(n>>38%360) - 180}, p)
			}
			came[g.x.Phase]++
			if g.x.Phase == isOff && n>>60 < 8 {
				g.boots()
			}
		}
	}
	for phase := range 4 {
		if came[phase] < 100 {
			t.Errorf("in phase %d only %d times", phase, came[phase])
		}
	}
}

func TestAFlashThatWearsOut(t *testing.T) {
	for limit := range 4 {
		for _, size := range []int{48, 72, 96} {
			g := &flight{t: t, x: Super{F: flash.New(size, limit)}}
			g.boots()
			written := 0
			for i := range 60 {
				was := g.x
				g.sees(sampleOf(grounded), whole())
				g.asks(does(toIsolate+i%2, 2), whole())
				if g.x.F != was.F {
					written++
				}
			}
			if g.x.Phase != fails {
				t.Fatalf("limit %d, %d bytes: %+v", limit, size, g.x)
			}
			// All that was said to be so is still there.
			g.boots()
			if (limit == 0) != (g.x.S == state.State{} && !Kept(g.x)) {
				t.Errorf("limit %d, %d bytes: %+v", limit, size, g.x)
			}
			if places := 2 * limit * (size/place - 1); written > places {
				t.Errorf("limit %d, %d bytes: %d states were written", limit, size, written)
			}
		}
	}
}

func TestWhatIsHandedInStays(t *testing.T) {
	x := running(homed(inAir(hover, 1)))
	y, mask := x, mixedText(40, 9)
	p := Power{Cut: 1, Mask: mask}
	for range 2 {
		a, e := Command(x, does(toGo, land), p)
		b, g := Command(x, does(toGo, land), p)
		if a != b || e != g || x != y || p.Mask != mask {
			t.Error("a call answers otherwise, or changes what is handed in")
		}
	}
}
