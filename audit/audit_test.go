package audit

import (
	"encoding/binary"
	"hash/crc32"
	"math"
	"slices"
	"strings"
	"testing"

	"dogwatch/command"
	"dogwatch/pick"
	"dogwatch/script"
	"dogwatch/state"
	"dogwatch/super"
	"dogwatch/vote"
)

// The numbers of the document, by themselves: the kinds of entries, the phases, the modes, the kinds of commands, and the votes.
const (
	asks = 1 + iota
	sees
	resets
	turns
)

const (
	holds = iota
	runs
	fails
	isOff
)

const (
	idle = iota
	manual
	hover
	auto
	back
	land
)

const (
	toGo = 1 + iota
	toArm
	toDisarm
	toHome
	toIsolate
	toRestore
)

const (
	grounded = 1
	airborne = 2
)

const (
	header   = 1
	update   = 2
	snapshot = 3
	place    = 24
)

// The oracle: what the document says, sentence by sentence.

// event is what an entry did: a state was acknowledged, or it is in flight.
type event struct {
	acked bool
	s     state.State
}

// events are what the entries of a flight did, by the calls that P22.1 names, and the flight behind them all.
func events(n, limit int, l []script.Entry) ([]event, script.Flight) {
	var out []event
	f := script.Begin(n, limit)
	for _, e := range l {
		g := script.Step(f, e)
		was, wasErr := pick.Read(f.X.F)
		is, isErr := pick.Read(g.X.F)
		sameFlash := g.X.F.Banks == f.X.F.Banks && g.X.F.Erases == f.X.F.Erases && g.X.F.Limit == f.X.F.Limit
		sameTold := is.Bank == was.Bank && is.Generation == was.Generation && is.Seq == was.Seq && is.Data == was.Data && isErr == wasErr
		if e.Kind == 1 || e.Kind == 2 {
			if r := g.Out[len(g.Out)-1]; r.E == 0 && !sameFlash {
				out = append(out, event{acked: true, s: g.X.S})
			}
		}
		if g.X.Phase == 3 && f.X.Phase != 3 && !sameTold {
			if s, err := state.Unpack(is.Data); err == 0 {
				out = append(out, event{s: s})
			}
		}
		f = g
	}
	return out, f
}

// followed is what P22.1 says of Follow.
func followed(n, limit int, l []script.Entry) Audit {
	did, f := events(n, limit, l)
	want := Audit{Now: super.Boot(f.X.F).S}
	behind := 0
	for i, e := range did {
		if e.acked {
			want.Acked = append(want.Acked, e.s)
			behind = i + 1
		}
	}
	if behind < len(did) {
		want.Flying, want.Flight = true, did[len(did)-1].s
	}
	return want
}

// alike tells whether two states are, field by field.
func alike(s, t state.State) bool {
	return s.Mode == t.Mode && s.Armed == t.Armed && s.Home == t.Home && s.Lat == t.Lat && s.Lon == t.Lon && s.Iso == t.Iso
}

// lastOf, knownTo and heldBy are what P22.2 says.
func lastOf(a Audit) state.State {
	last := state.State{}
	for _, s := range a.Acked {
		last = s
	}
	return last
}

func knownTo(a Audit, s state.State) bool {
	known := alike(s, state.State{})
	for _, t := range a.Acked {
		known = known || alike(s, t)
	}
	if a.Flying {
		known = known || alike(s, a.Flight)
	}
	return known
}

func heldBy(a Audit) bool {
	want := lastOf(a)
	if a.Flying {
		want = a.Flight
	}
	return alike(a.Now, want)
}

// What the tests hand in.

// mixed is a number that hangs on seed alone.
func mixed(seed uint64) uint64 {
	seed += 0x9E3779B97F4A7C15
	seed = (seed ^ seed>>30) * 0xBF58476D1CE4E5B9
	seed = (seed ^ seed>>27) * 0x94D049BB133111EB
	return seed ^ seed>>31
}

// of is the element of l that n leads to.
func of[E any](l []E, n uint64) E {
	return l[n%uint64(len(l))]
}

// same is n times the byte b.
func same(n int, b byte) string {
	return strings.Repeat(string([]byte{b}), n)
}

// mixedText is n bytes that hang on seed alone.
func mixedText(n int, seed uint64) string {
	out := make([]byte, n)
	for i := range out {
		out[i] = byte(mixed(seed<<20 + uint64(i)))
	}
	return string(out)
}

// far are numbers a long way from 0, and such as only look small where some of their bits are lost.
func far() []int {
	return []int{math.MinInt, math.MinInt + 1, -1 << 62, -1<<32 - 1, -1 << 32, -1<<32 + 2, -1 << 31, 1 << 31, 1<<32 + 2, 1 << 60, 1<<62 + 3, math.MaxInt - 1, math.MaxInt}
}

// all is a mask that takes all of what is done.
func all() string {
	return same(400, 255)
}

// whole is power that doesn't go; cut goes at an op, of which the mask is done.
func whole() super.Power {
	return super.Power{Cut: -1}
}

func cut(op int, mask string) super.Power {
	return super.Power{Cut: op, Mask: mask}
}

// masks take nothing, some, and all of what is done; two of them take just what a mark clears, and a bit less.
func masks() []string {
	return []string{"", "\xff", "\xff\xff", all(), same(400, 1), same(400, 0xFE), "\xa5\xc3", "\xa5\x43", "\x25\xc3", "\xa5", mixedText(400, 1), mixedText(60, 2)}
}

// takesMark tells whether a mask takes all that a mark clears of blank bytes.
func takesMark(mask string) bool {
	return len(mask) >= 2 && mask[0]&0xA5 == 0xA5 && mask[1]&0xC3 == 0xC3
}

// does is an entry that hands in a command of a kind, with a number.
func does(kind, n int) script.Entry {
	return script.Entry{Kind: asks, C: command.Command{Kind: kind, N: n}, P: whole()}
}

// homeAt is an entry that sets the home.
func homeAt(lat, lon float64) script.Entry {
	return script.Entry{Kind: asks, C: command.Command{Kind: toHome, Lat: lat, Lon: lon}, P: whole()}
}

// shows is an entry that hands in a sample of a vote.
func shows(v int) script.Entry {
	return script.Entry{Kind: sees, V: [3]vote.Sample{{Alt: 1.5}, {}, {Alt: 10, Thrust: 0.5}}[v], P: whole()}
}

// restart is an entry that resets.
func restart() script.Entry {
	return script.Entry{Kind: resets}
}

// turned is an entry that turns a bit.
func turned(at int) script.Entry {
	return script.Entry{Kind: turns, At: at}
}

// by is e with another power.
func by(e script.Entry, p super.Power) script.Entry {
	e.P = p
	return e
}

// times is n times e.
func times(n int, e script.Entry) []script.Entry {
	return slices.Repeat([]script.Entry{e}, n)
}

// join is all entries of these lists, in new memory.
func join(l ...[]script.Entry) []script.Entry {
	return slices.Concat(l...)
}

// stands are three samples that agree that it stands, flies three that it flies.
func stands() []script.Entry {
	return times(3, shows(grounded))
}

func flies() []script.Entry {
	return times(3, shows(airborne))
}

// inAir is a state that is armed, in a mode.
func inAir(mode, iso int) state.State {
	return state.State{Mode: mode, Armed: true, Iso: iso}
}

// noKinds are entries of no kind, which have all that one of a kind may have.
func noKinds() []script.Entry {
	var out []script.Entry
	for _, kind := range append(far(), 0, -1, -2, -3, -4, 5, 6, 255, 256, 257, 258, 259, 260) {
		e := shows(airborne)
		e.Kind, e.C, e.At = kind, does(toIsolate, 1).C, 7
		out = append(out, e, by(e, cut(1, all())), script.Entry{Kind: kind})
	}
	return out
}

// faulty are entries that lead to nothing, whatever the state is: commands and samples of all kinds of faults.
func faulty() []script.Entry {
	nan, inf := math.NaN(), math.Inf(1)
	out := []script.Entry{homeAt(90.5, 0), homeAt(0, 180.5), homeAt(nan, 0), homeAt(0, nan), homeAt(-inf, 0), homeAt(0, inf), shows(0)}
	for _, n := range append(far(), -1, 6, 256) {
		out = append(out, does(toGo, n), does(toIsolate, n), does(toRestore, n), does(n, 0))
	}
	for _, s := range []vote.Sample{{Alt: nan, Speed: 9, Thrust: 9}, {Speed: nan}, {Alt: 9, Speed: 9, Thrust: nan}, {Alt: nan, Speed: nan, Thrust: nan}} {
		out = append(out, script.Entry{Kind: sees, V: s, P: whole()})
	}
	return out
}

// longFlight is n entries that hang on seed alone; of those that turn bits there are none, unless turning is true.
func longFlight(n int, seed uint64, turning bool) []script.Entry {
	var out []script.Entry
	for i := range uint64(n) {
		n := mixed(seed<<8 | i | 1<<40)
		e := shows(1 + int(seed+i/15)%2)
		switch n % 16 {
		case 0, 1:
			e = restart()
		case 2:
			if turning {
				e = turned(int(n>>8%1200) - 20)
			}
		case 3:
			e = of(faulty(), n>>8)
		case 4:
			e = of(noKinds(), n>>8)
		case 5, 6, 7, 8, 9, 10:
			e = script.Entry{Kind: asks, C: command.Command{Kind: int(n >> 8 % 7), N: int(n >> 12 % 6), Lat: float64(n>>20%180) - 90, Lon: float64(n>>30%360) - 180}, P: whole()}
		}
		if n>>40%3 == 0 {
			mask := all()
			if n>>43%3 == 0 {
				mask = of(masks(), n>>44)
			}
			// At the last op of a plan, one and another one, more often than ahead of it.
			e = by(e, cut(of([]int{1, 1, 4, 1, 5, 1, 4, 5, 0, 2, 3, 6}, n>>50), mask))
		}
		out = append(out, e)
	}
	return out
}

// sizes and limits are those of the long flights.
func sizes(seed uint64) (n, limit int) {
	return []int{1, 2, 3, 12, 5}[seed%5], []int{1000, 1000, 99, 4, 2}[seed/5%5]
}

// rec is the 24 bytes of a record.
func rec(kind byte, seq, data uint64) string {
	s := binary.BigEndian.AppendUint64([]byte{165, kind}, seq)
	s = binary.BigEndian.AppendUint64(s, data)
	return string(binary.LittleEndian.AppendUint32(s, crc32.ChecksumIEEE(s))) + "\x5a\x3c"
}

// spoiled is a header that is not good, since the lowest bit of a byte that is to be 255 was turned: an erase of that byte alone makes it good again.
func spoiled() string {
	s := []byte(rec(header, 255, 0))
	s[9] ^= 1
	return string(s)
}

// mending is power that goes while a bank is erased, of which only that byte is done.
func mending() super.Power {
	return cut(0, same(9, 0)+"\x01")
}

// towards are entries that turn all bits by which two pairs of banks differ.
func towards(from, to [2]string) []script.Entry {
	var out []script.Entry
	old, young := from[0]+from[1], to[0]+to[1]
	for i := range len(old) {
		for bit := range 8 {
			if (old[i]^young[i])>>bit&1 == 1 {
				out = append(out, turned(8*i+bit))
			}
		}
	}
	return out
}

// forged are the entries of a flight, and behind them those that turn its banks into these.
func forged(n, limit int, l []script.Entry, to ...string) []script.Entry {
	f := script.Run(script.Begin(n, limit), l)
	return join(l, towards(f.X.F.Banks, [2]string{to[0], to[1]}))
}

// sameAudit tells whether two audits are alike; that a list is nil doesn't count.
func sameAudit(a, b Audit) bool {
	return slices.Equal(a.Acked, b.Acked) && a.Flying == b.Flying && a.Flight == b.Flight && a.Now == b.Now
}

// checkFollow tells where a flight's audit is another one.
func checkFollow(t *testing.T, n, limit int, l []script.Entry, want Audit) {
	t.Helper()
	if got := Follow(n, limit, l); !sameAudit(got, want) {
		t.Fatalf("Follow of %d, %d and %+v:\n%+v, not\n%+v", n, limit, l, got, want)
	}
}

// checkHeld is checkFollow, where the audit is what the oracle says, too, and holds or not.
func checkHeld(t *testing.T, n, limit int, l []script.Entry, want Audit, held bool) {
	t.Helper()
	checkFollow(t, n, limit, l, want)
	if oracle := followed(n, limit, l); !sameAudit(oracle, want) {
		t.Fatalf("the oracle of %d, %d and %+v:\n%+v, not\n%+v", n, limit, l, oracle, want)
	}
	if Holds(want) != held {
		t.Fatalf("Holds of %+v: %t", want, !held)
	}
}

// P22.1

func TestFollowOfNoEntries(t *testing.T) {
	for _, n := range append(far(), -1, 0, 1, 2, 11, 12, 13, 24) {
		for _, limit := range append(far(), -1, 0, 1, 9, 1000, 1001) {
			for _, l := range [][]script.Entry{nil, {}, noKinds()[:0]} {
				checkHeld(t, n, limit, l, Audit{}, true)
			}
		}
	}
}

func TestAFlightOfAllKinds(t *testing.T) {
	first, armed, blind, down := state.State{}, inAir(manual, 0), inAir(manual, 2), state.State{Iso: 2}
	away := state.State{Mode: manual, Armed: true, Home: true, Lat: 8192, Lon: -4096}
	hovers := state.State{Mode: hover, Armed: true, Home: true, Lat: 8192, Lon: -4096}
	acked := []state.State{first, armed, blind, down, armed, hovers}
	var l []script.Entry
	for i, c := range []struct {
		l    []script.Entry
		want Audit
		held bool
	}{
		{[]script.Entry{does(toArm, 0), does(toGo, hover), shows(grounded), shows(0), shows(grounded)}, Audit{}, true},
		// The verdict writes the first state, and is acknowledged, though that is the state that was there already.
		{[]script.Entry{shows(grounded)}, Audit{Acked: acked[:1], Now: first}, true},
		{[]script.Entry{does(toArm, 0)}, Audit{Acked: acked[:2], Now: armed}, true},
		{[]script.Entry{does(toArm, 0), does(toGo, auto), shows(airborne)}, Audit{Acked: acked[:2], Now: armed}, true},
		{[]script.Entry{does(toIsolate, 1)}, Audit{Acked: acked[:3], Now: blind}, true},
		// What is OK, but writes nothing.
		{[]script.Entry{does(toIsolate, 1), does(toRestore, 2), shows(grounded), {Kind: 5}, {}}, Audit{Acked: acked[:3], Now: blind}, true},
		{[]script.Entry{restart(), shows(grounded), shows(grounded)}, Audit{Acked: acked[:3], Now: blind}, true},
		{[]script.Entry{shows(grounded)}, Audit{Acked: acked[:4], Now: down}, true},
		// The last record, in slot 2 of bank 1, is turned: what is found then is what was acknowledged ahead of it.
		{[]script.Entry{turned(8*(72+48) + 3)}, Audit{Acked: acked[:4], Now: blind}, false},
		{[]script.Entry{does(toRestore, 1)}, Audit{Acked: acked[:5], Now: armed}, true},
		// All of the home's record is done when the power goes.
		{[]script.Entry{by(homeAt(1, -0.5), cut(1, all()))}, Audit{Acked: acked[:5], Flying: true, Flight: away, Now: away}, true},
		{[]script.Entry{homeAt(3, 3), shows(grounded), does(toGo, land)}, Audit{Acked: acked[:5], Flying: true, Flight: away, Now: away}, true},
		// It resolves to what is kept already, so that nothing is written.
		{join([]script.Entry{restart()}, flies()), Audit{Acked: acked[:5], Flying: true, Flight: away, Now: away}, true},
		{[]script.Entry{does(toGo, hover)}, Audit{Acked: acked, Now: hovers}, true},
		{[]script.Entry{by(does(toGo, land), cut(0, all())), shows(airborne), restart()}, Audit{Acked: acked, Now: hovers}, true},
	} {
		l = append(l, c.l...)
		if got := Follow(2, 99, l); !sameAudit(got, c.want) || Holds(got) != c.held {
			t.Errorf("behind %d parts: %+v, not %+v", i+1, got, c.want)
		}
		checkHeld(t, 2, 99, l, c.want, c.held)
	}
}

func TestOnlyWhatIsWrittenIsAcknowledged(t *testing.T) {
	armed := inAir(manual, 0)
	ready := append(stands(), does(toArm, 0))
	want := Audit{Acked: []state.State{{}, armed}, Now: armed}
	quiet := slices.Concat(faulty(), noKinds(), []script.Entry{
		does(toRestore, 0), does(toRestore, 3), shows(0), shows(grounded), shows(airborne), does(toArm, 0), does(toGo, auto), does(toGo, idle), does(toGo, back),
	})
	for _, e := range quiet {
		for _, p := range []super.Power{whole(), cut(0, all()), cut(1, all()), cut(5, all())} {
			checkHeld(t, 3, 99, append(ready[:4:4], by(e, p), by(e, p)), want, true)
		}
	}
	// A restart replies OK, and so does one that turns a bit, also where another flash, and another state, comes of it.
	checkHeld(t, 3, 99, append(ready[:4:4], restart()), want, true)
	want.Now = state.State{}
	checkHeld(t, 3, 99, append(ready[:4:4], turned(8*2*place)), want, false)
	checkHeld(t, 3, 99, append(ready[:4:4], turned(8*2*place), turned(0)), want, false)
}

func TestWhatASampleWritesIsAcknowledged(t *testing.T) {
	checkHeld(t, 1, 9, stands(), Audit{Acked: []state.State{{}}}, true)
	hovers := inAir(hover, 0)
	checkHeld(t, 1, 9, flies(), Audit{Acked: []state.State{hovers}, Now: hovers}, true)
	// What is kept already is not written anew.
	again := join(stands(), []script.Entry{restart()}, stands())
	checkHeld(t, 1, 9, again, Audit{Acked: []state.State{{}}}, true)
	// Also while it waits for a verdict a command may write.
	checkHeld(t, 1, 9, []script.Entry{does(toIsolate, 2)}, Audit{Acked: []state.State{{Iso: 4}}, Now: state.State{Iso: 4}}, true)
}

func TestACutAtEachOpOfACommand(t *testing.T) {
	first, one, two, home := state.State{}, state.State{Iso: 1}, state.State{Iso: 3}, state.State{Home: true, Lat: 4096, Lon: 0}
	isolate := []script.Entry{does(toIsolate, 0), does(toIsolate, 1)}
	for _, c := range []struct {
		n     int
		l     []script.Entry
		ops   int
		acked []state.State
	}{
		{3, nil, 5, nil},                                                // of a new flash
		{2, isolate[:1], 2, []state.State{one}},                         // to a slot behind others
		{1, isolate[:1], 5, []state.State{one}},                         // to a bank that was not used yet
		{1, isolate, 6, []state.State{one, two}},                        // to one that was
		{3, stands(), 2, []state.State{first}},                          // behind a verdict
		{1, join(stands(), isolate), 6, []state.State{first, one, two}}, // behind a verdict, to a bank that was used
	} {
		now := lastOf(Audit{Acked: c.acked})
		home.Iso = now.Iso
		for op := range c.ops {
			for _, mask := range masks() {
				e := by(homeAt(0.5, 0), cut(op, mask))
				want := Audit{Acked: c.acked, Now: now}
				if op == c.ops-1 && takesMark(mask) {
					want = Audit{Acked: c.acked, Flying: true, Flight: home, Now: home}
				}
				l := append(slices.Clone(c.l), e)
				checkHeld(t, c.n, 99, l, want, true)
				// The power is off: nothing more comes of it, nor of a restart.
				checkHeld(t, c.n, 99, append(l, homeAt(9, 9), shows(grounded), e, restart(), shows(grounded), restart()), want, true)
				// It goes on, with more acknowledged.
				next := want.Now
				next.Iso ^= 8
				more := append(l, restart(), does(toIsolate, 3))
				checkHeld(t, c.n, 99, more, Audit{Acked: slices.Concat(c.acked, []state.State{next}), Now: next}, true)
			}
		}
		for _, op := range []int{-1, -2, c.ops, c.ops + 1, math.MaxInt, math.MinInt, 1 << 32} {
			l := append(slices.Clone(c.l), by(homeAt(0.5, 0), cut(op, all())))
			checkHeld(t, c.n, 99, l, Audit{Acked: slices.Concat(c.acked, []state.State{home}), Now: home}, true)
		}
	}
}

func TestACutAtEachOpOfASample(t *testing.T) {
	armed, down := inAir(manual, 0), state.State{}
	ready := append(stands(), does(toArm, 0), restart())
	for _, c := range []struct {
		n     int
		l     []script.Entry
		ops   int
		acked []state.State
		s     state.State
	}{
		// Nothing was told ahead, so that the first state is in flight, though it is the zero one.
		{2, nil, 5, nil, down},
		{3, ready, 2, []state.State{down, armed}, down},
		{2, ready, 5, []state.State{down, armed}, down},
		{1, ready, 6, []state.State{down, armed}, down},
	} {
		now := lastOf(Audit{Acked: c.acked})
		l := append(slices.Clone(c.l), shows(grounded), shows(grounded))
		for op := range c.ops {
			for _, mask := range masks() {
				want := Audit{Acked: c.acked, Now: now}
				if op == c.ops-1 && takesMark(mask) {
					want = Audit{Acked: c.acked, Flying: true, Flight: c.s, Now: c.s}
				}
				m := append(l[:len(l):len(l)], by(shows(grounded), cut(op, mask)))
				checkHeld(t, c.n, 99, m, want, true)
				checkHeld(t, c.n, 99, append(m, shows(grounded), restart(), shows(airborne), shows(grounded)), want, true)
			}
		}
		// Where nothing is written, the power doesn't go, nor is there an op behind the last one at which it goes.
		quiet := append(slices.Clone(c.l), by(shows(grounded), cut(0, all())), by(shows(grounded), cut(0, all())))
		checkHeld(t, c.n, 99, quiet, Audit{Acked: c.acked, Now: now}, true)
		late := append(quiet, by(shows(grounded), cut(c.ops, all())))
		checkHeld(t, c.n, 99, late, Audit{Acked: slices.Concat(c.acked, []state.State{c.s}), Now: c.s}, true)
	}
}

func TestTwoCuts(t *testing.T) {
	armed := inAir(manual, 0)
	acked := []state.State{{}, armed}
	ready := append(stands(), does(toArm, 0))
	hovers, lands := inAir(hover, 0), inAir(land, 0)
	done, lost := cut(1, all()), cut(1, "\xff")
	up, down := does(toGo, hover), does(toGo, land)
	again := append([]script.Entry{restart()}, flies()...)
	for i, c := range []struct {
		one, two script.Entry
		want     Audit
		known    bool // hovers
	}{
		{by(up, lost), by(down, lost), Audit{Acked: acked, Now: armed}, false},
		{by(up, lost), by(down, done), Audit{Acked: acked, Flying: true, Flight: lands, Now: lands}, false},
		{by(up, done), by(down, lost), Audit{Acked: acked, Flying: true, Flight: hovers, Now: hovers}, true},
		{by(up, done), by(down, done), Audit{Acked: acked, Flying: true, Flight: lands, Now: lands}, false},
		{by(up, done), down, Audit{Acked: append(acked[:2:2], lands), Now: lands}, false},
		{by(up, lost), down, Audit{Acked: append(acked[:2:2], lands), Now: lands}, false},
		{up, by(down, done), Audit{Acked: append(acked[:2:2], hovers), Flying: true, Flight: lands, Now: lands}, true},
		{up, by(down, lost), Audit{Acked: append(acked[:2:2], hovers), Now: hovers}, true},
	} {
		// Twelve slots: all of these are appended, in two ops each.
		l := join(ready, []script.Entry{c.one}, again, []script.Entry{c.two})
		checkHeld(t, 12, 99, l, c.want, true)
		checkHeld(t, 12, 99, append(l, again...), c.want, true)
		if got := Known(Follow(12, 99, l), hovers); got != c.known {
			t.Errorf("%d: Known of hovers: %t", i, got)
		}
	}
}

func TestManyCuts(t *testing.T) {
	// The first cut kills the header of the bank that is to be fresh, so that the plans behind it have five ops; of the last one all is done.
	one, two := state.State{Iso: 1}, state.State{Iso: 3}
	l := append(stands(), does(toIsolate, 0))
	for _, op := range []int{0, 0, 1, 2, 3} {
		l = append(l, by(does(toIsolate, 1), cut(op, all())), restart())
		checkHeld(t, 1, 99, l, Audit{Acked: []state.State{{}, one}, Now: one}, true)
	}
	l = append(l, by(does(toIsolate, 1), cut(4, all())))
	checkHeld(t, 1, 99, l, Audit{Acked: []state.State{{}, one}, Flying: true, Flight: two, Now: two}, true)
}

func TestInFlightAndThenAcknowledged(t *testing.T) {
	away := state.State{Home: true, Lat: 8192, Lon: 8192}
	l := []script.Entry{by(homeAt(1, 1), cut(4, all()))}
	checkHeld(t, 2, 9, l, Audit{Flying: true, Flight: away, Now: away}, true)
	// What a restart makes of it is not acknowledged; only what is written then is.
	l = append(l, restart(), does(toRestore, 1), shows(grounded), shows(grounded), shows(grounded), does(toArm, 3))
	a := Follow(2, 9, l)
	armed := away
	armed.Mode, armed.Armed = manual, true
	checkHeld(t, 2, 9, l[:len(l)-1], Audit{Flying: true, Flight: away, Now: away}, true)
	checkHeld(t, 2, 9, l, Audit{Acked: []state.State{armed}, Now: armed}, true)
	if a.Flying || a.Flight != (state.State{}) || Known(a, away) || Last(a) != armed {
		t.Errorf("%+v", a)
	}
}

func TestWornOut(t *testing.T) {
	// Nothing can be written, so that nothing is acknowledged, or in flight.
	for _, n := range []int{1, 2, 12} {
		for _, p := range []super.Power{whole(), cut(0, all()), cut(4, all())} {
			checkHeld(t, n, 0, []script.Entry{by(does(toIsolate, 0), p), by(homeAt(1, 1), p), restart(), by(shows(grounded), p), by(shows(grounded), p), by(shows(grounded), p), by(does(toArm, 0), p)}, Audit{}, true)
		}
	}
	// One erase of each bank: two states; the third one is refused, whatever the power does.
	one, two := state.State{Iso: 1}, state.State{Iso: 3}
	for _, p := range []super.Power{whole(), cut(0, all()), cut(5, all())} {
		l := []script.Entry{does(toIsolate, 0), does(toIsolate, 1), by(does(toIsolate, 2), p)}
		checkHeld(t, 1, 1, l, Audit{Acked: []state.State{one, two}, Now: two}, true)
		checkHeld(t, 1, 1, append(l, does(toRestore, 0), restart(), by(homeAt(1, 1), p)), Audit{Acked: []state.State{one, two}, Now: two}, true)
	}
	// The last erase that there is is torn: there is nothing to write to any more.
	l := []script.Entry{does(toIsolate, 0), by(does(toIsolate, 1), cut(0, "")), restart(), does(toIsolate, 1)}
	checkHeld(t, 1, 1, l, Audit{Acked: []state.State{one}, Now: one}, true)
}

func TestFlashesThatThereAreNone(t *testing.T) {
	for _, n := range append(far(), -1, 0, 13, 14, 24) {
		checkHeld(t, n, 99, join(stands(), []script.Entry{does(toIsolate, 1), restart(), homeAt(1, 1), turned(5)}, longFlight(20, 3, true)), Audit{}, true)
	}
	for _, limit := range append(far(), -1, 1001, 1<<20) {
		checkHeld(t, 2, limit, join(stands(), []script.Entry{does(toIsolate, 1), restart(), homeAt(1, 1), turned(5)}, longFlight(20, 3, true)), Audit{}, true)
	}
	// The limits themselves are such that there is one.
	for _, n := range []int{1, 12} {
		for _, limit := range []int{1, 1000} {
			checkHeld(t, n, limit, stands(), Audit{Acked: []state.State{{}}}, true)
		}
	}
}

func TestEntriesOfNoKind(t *testing.T) {
	checkHeld(t, 2, 99, noKinds(), Audit{}, true)
	l := append(stands(), by(does(toArm, 0), cut(1, all())))
	want := Audit{Acked: []state.State{{}}, Flying: true, Flight: inAir(manual, 0), Now: inAir(manual, 0)}
	checkHeld(t, 2, 99, l, want, true)
	for _, e := range noKinds() {
		checkHeld(t, 2, 99, append(l[:4:4], e), want, true)
	}
}

func TestABitThatIsTurned(t *testing.T) {
	one, two := state.State{Iso: 1}, state.State{Iso: 3}
	l := []script.Entry{does(toIsolate, 0), does(toIsolate, 1)}
	for at := range 2 * 8 * 3 * place {
		want := Audit{Acked: []state.State{one, two}, Now: two}
		switch at / (8 * place) {
		case 0:
			want.Now = state.State{}
		case 2:
			want.Now = one
		}
		checkHeld(t, 2, 9, append(l[:2:2], turned(at)), want, want.Now == two)
		want.Now = two
		checkHeld(t, 2, 9, append(l[:2:2], turned(at), turned(at)), want, true)
	}
	// What is in flight stays so, also where it was turned, and a restart finds another one.
	l[1] = by(l[1], cut(1, all()))
	want := Audit{Acked: []state.State{one}, Flying: true, Flight: two, Now: one}
	checkHeld(t, 2, 9, append(l[:2:2], turned(8*2*place)), want, false)
	checkHeld(t, 2, 9, append(l[:2:2], turned(8*2*place), by(homeAt(1, 1), cut(0, all()))), want, false)
}

// The banks of what follows have one slot. Bank 0 tells a state; bank 1 has a header that counts more, but is spoiled; an erase that is torn mends it.

func TestWhatIsToldIsInFlightNotWhatIsWritten(t *testing.T) {
	here, there := state.State{Iso: 1}, state.State{Iso: 2, Home: true}
	tells := rec(header, 1, 0) + rec(update, 7, state.Pack(here))
	l := forged(1, 9, nil, tells, spoiled()+rec(snapshot, 3, state.Pack(there)))
	checkHeld(t, 1, 9, l, Audit{Now: here}, false)
	checkHeld(t, 1, 9, append(l, by(does(toIsolate, 3), mending())), Audit{Flying: true, Flight: there, Now: there}, true)
	checkHeld(t, 1, 9, append(l, shows(grounded), shows(grounded), by(shows(grounded), mending())), Audit{Now: here}, false)
	checkHeld(t, 1, 9, append(l, shows(airborne), shows(airborne), by(shows(airborne), mending())), Audit{Flying: true, Flight: there, Now: there}, true)
	checkHeld(t, 1, 9, append(l, by(does(toIsolate, 3), cut(0, all()))), Audit{Now: here}, false)
}

func TestTheSameDataToldAnewIsInFlight(t *testing.T) {
	s := state.State{Iso: 5, Home: true, Lat: -1, Lon: 1}
	head, tells := rec(header, 255, 0), rec(update, 7, state.Pack(s))
	for _, banks := range [][2]string{
		// The bank, the generation and the Seq are others.
		{rec(header, 1, 0) + tells, spoiled() + rec(update, 3, state.Pack(s))},
		// The bank and the generation.
		{rec(header, 254, 0) + tells, spoiled() + tells},
		// The bank and the Seq; of two banks of one generation the first one counts.
		{spoiled() + rec(snapshot, 8, state.Pack(s)), head + tells},
		// The bank alone.
		{spoiled() + tells, head + tells},
	} {
		l := forged(1, 9, nil, banks[0], banks[1])
		checkHeld(t, 1, 9, l, Audit{Now: s}, false)
		checkHeld(t, 1, 9, append(l, by(does(toIsolate, 1), mending())), Audit{Flying: true, Flight: s, Now: s}, true)
		// Of the torn erase nothing that counts is done.
		for _, mask := range []string{"", all(), same(9, 0) + "\xfe"} {
			checkHeld(t, 1, 9, append(l, by(does(toIsolate, 1), cut(0, mask))), Audit{Now: s}, false)
		}
	}
}

func TestDataThatIsNoState(t *testing.T) {
	away, here := state.State{Home: true, Lat: 8192, Lon: 8192}, state.State{Iso: 1}
	flown := []script.Entry{by(homeAt(1, 1), cut(4, all()))}
	for _, data := range []uint64{6 << 56, 1 << 63, 0x10 << 48, 1, math.MaxUint64} {
		if _, err := state.Unpack(data); err == 0 {
			t.Fatalf("%d is a state", data)
		}
		none := rec(update, 7, data)
		// It is told ahead already: a restart finds the default state.
		l := forged(1, 9, nil, rec(header, 1, 0)+none, same(2*place, 255))
		checkHeld(t, 1, 9, l, Audit{}, true)
		checkHeld(t, 1, 9, append(l, by(does(toIsolate, 0), cut(3, all()))), Audit{}, true)
		checkHeld(t, 1, 9, append(l, by(does(toIsolate, 0), cut(4, all()))), Audit{Flying: true, Flight: here, Now: here}, true)
		checkHeld(t, 1, 9, append(l, does(toIsolate, 0)), Audit{Acked: []state.State{here}, Now: here}, true)
		// The default state is written in its place, by a verdict.
		checkHeld(t, 1, 9, append(l, stands()...), Audit{Acked: []state.State{{}}}, true)
		checkHeld(t, 1, 9, append(l, shows(grounded), shows(grounded), by(shows(grounded), cut(4, all()))), Audit{Flying: true}, true)
		// It is told by what is written torn: that is no state which could be in flight, neither behind nothing nor behind another one, which stays so.
		banks := []string{rec(header, 1, 0) + rec(update, 7, state.Pack(here)), spoiled() + none}
		checkHeld(t, 1, 9, append(forged(1, 9, nil, banks...), by(does(toIsolate, 3), mending())), Audit{}, true)
		l = append(forged(1, 9, flown, banks...), by(does(toIsolate, 3), mending()))
		checkHeld(t, 1, 9, l, Audit{Flying: true, Flight: away}, false)
		l = append(forged(1, 9, []script.Entry{does(toIsolate, 0)}, banks...), by(does(toIsolate, 3), mending()))
		checkHeld(t, 1, 9, l, Audit{Acked: []state.State{here}}, false)
	}
}

func TestFollowOfLongFlights(t *testing.T) {
	did, held, ended := map[bool]int{}, map[bool]int{}, map[int]int{}
	for seed := range uint64(600) {
		n, limit := sizes(seed)
		l := longFlight(60, seed, seed%3 > 0)
		want := followed(n, limit, l)
		checkFollow(t, n, limit, l, want)
		done, f := events(n, limit, l)
		for _, e := range done {
			did[e.acked]++
		}
		held[Holds(want)]++
		ended[f.X.Phase]++
	}
	if did[true] < 2000 || did[false] < 200 || held[true] < 300 || held[false] < 20 {
		t.Errorf("%v acknowledged, %v held", did, held)
	}
	for _, phase := range []int{holds, runs, fails, isOff} {
		if ended[phase] < 10 {
			t.Errorf("only %d flights ended in phase %d", ended[phase], phase)
		}
	}
}

func TestFollowEntryByEntry(t *testing.T) {
	for seed := range uint64(60) {
		n, limit := sizes(seed)
		l := longFlight(60, seed+5000, seed%2 > 0)
		for i := range len(l) + 1 {
			checkFollow(t, n, limit, l[:i], followed(n, limit, l[:i]))
		}
	}
}

func TestFollowOfMoreEntries(t *testing.T) {
	for seed := range uint64(4) {
		n, limit := sizes(seed)
		l := longFlight(1000, seed, seed > 1)
		checkFollow(t, n, limit, l, followed(n, limit, l))
	}
}

// P22.2

// pool is states of which each differs from the first one in one field alone; some are such that no flight leads to them.
func pool() []state.State {
	return []state.State{{}, {Mode: 1}, {Armed: true}, {Home: true}, {Lat: 1}, {Lon: 1}, {Iso: 1}, {Mode: -1}, {Lat: math.MinInt}, {Lon: 1 << 32}, {Iso: math.MaxInt}}
}

// audits are such as no flight needs to lead to: with all of the pool's states in flight, or not, and found now, behind none to three that were acknowledged.
func audits() []Audit {
	var out []Audit
	l := pool()
	for _, acked := range [][]state.State{nil, {}, {l[0]}, {l[1]}, {l[1], l[2]}, {l[2], l[1]}, {l[3], l[4], l[5]}, {l[6], l[6], l[0]}, {l[7], l[8]}, l} {
		for _, flight := range l {
			for _, now := range l {
				out = append(out, Audit{Acked: acked, Flight: flight, Now: now}, Audit{Acked: acked, Flying: true, Flight: flight, Now: now})
			}
		}
	}
	return out
}

func TestLastOfKnown(t *testing.T) {
	one, two := inAir(hover, 3), state.State{Iso: 9}
	for i, c := range []struct {
		a    Audit
		want state.State
	}{
		{Audit{}, state.State{}},
		{Audit{Acked: []state.State{}}, state.State{}},
		{Audit{Flying: true, Flight: one, Now: two}, state.State{}},
		{Audit{Acked: []state.State{one}}, one},
		{Audit{Acked: []state.State{one, two}, Flying: true, Flight: one, Now: one}, two},
		{Audit{Acked: []state.State{two, two, one}, Now: two}, one},
		{Audit{Acked: []state.State{one, two, {}}}, state.State{}},
	} {
		if got := Last(c.a); got != c.want {
			t.Errorf("%d: Last of %+v: %+v", i, c.a, got)
		}
	}
}

func TestKnownOfKnown(t *testing.T) {
	one, two, three := inAir(hover, 3), state.State{Iso: 9}, state.State{Mode: land, Armed: true, Home: true, Lat: 5, Lon: -5}
	for i, c := range []struct {
		a    Audit
		want [4]bool
	}{
		{Audit{}, [4]bool{true}},
		{Audit{Flight: one, Now: two}, [4]bool{true}},
		{Audit{Flying: true, Flight: one, Now: two}, [4]bool{true, true}},
		{Audit{Flying: true, Now: three}, [4]bool{true}},
		{Audit{Acked: []state.State{two}}, [4]bool{true, false, true}},
		{Audit{Acked: []state.State{one, two}, Flight: three, Now: three}, [4]bool{true, true, true}},
		{Audit{Acked: []state.State{one, two}, Flying: true, Flight: three}, [4]bool{true, true, true, true}},
		{Audit{Acked: []state.State{three, three}, Flying: true, Flight: three}, [4]bool{true, false, false, true}},
	} {
		for k, s := range []state.State{{}, one, two, three} {
			if got := Known(c.a, s); got != c.want[k] {
				t.Errorf("%d: Known of %+v and %+v: %t", i, c.a, s, got)
			}
		}
	}
}

func TestHoldsOfKnown(t *testing.T) {
	one, two := inAir(hover, 3), state.State{Iso: 9}
	for i, c := range []struct {
		a    Audit
		want bool
	}{
		{Audit{}, true},
		{Audit{Now: one}, false},
		{Audit{Flight: one, Now: one}, false},
		{Audit{Flying: true, Flight: one, Now: one}, true},
		{Audit{Flying: true, Flight: one}, false},
		{Audit{Flying: true}, true},
		{Audit{Acked: []state.State{one}, Now: one}, true},
		{Audit{Acked: []state.State{one}}, false},
		{Audit{Acked: []state.State{one, two}, Now: one}, false},
		{Audit{Acked: []state.State{one, two}, Now: two}, true},
		{Audit{Acked: []state.State{one, two}, Flying: true, Flight: one, Now: two}, false},
		{Audit{Acked: []state.State{one, two}, Flying: true, Flight: one, Now: one}, true},
		{Audit{Acked: []state.State{two}, Flying: true}, true},
		{Audit{Acked: []state.State{two}, Flying: true, Now: two}, false},
	} {
		if got := Holds(c.a); got != c.want {
			t.Errorf("%d: Holds of %+v: %t", i, c.a, got)
		}
	}
}

func TestAuditsThatNoFlightLeadsTo(t *testing.T) {
	for _, a := range audits() {
		if got := Last(a); !alike(got, lastOf(a)) {
			t.Fatalf("Last of %+v: %+v", a, got)
		}
		if got := Holds(a); got != heldBy(a) {
			t.Fatalf("Holds of %+v: %t", a, got)
		}
		for _, s := range append(pool(), inAir(hover, 0), state.State{Mode: 1, Armed: true}) {
			if got := Known(a, s); got != knownTo(a, s) {
				t.Fatalf("Known of %+v and %+v: %t", a, s, got)
			}
		}
	}
}

func TestAllThatWasAcknowledgedIsKnown(t *testing.T) {
	var a Audit
	for i := range 200 {
		a.Acked = append(a.Acked, state.State{Home: true, Lat: i + 1, Lon: -i})
	}
	for i := range 200 {
		s := state.State{Home: true, Lat: i + 1, Lon: -i}
		if !Known(a, s) {
			t.Errorf("the %dth is not known", i)
		}
		s.Lon--
		if Known(a, s) {
			t.Errorf("%+v is known", s)
		}
	}
	if Last(a) != a.Acked[199] {
		t.Errorf("Last: %+v", Last(a))
	}
}

// P22.3

func TestAFlightHoldsWhateverIsCut(t *testing.T) {
	flying := 0
	for seed := range uint64(1000) {
		n, limit := sizes(seed)
		l := longFlight(60, seed+9000, false)
		a := Follow(n, limit, l)
		if !Holds(a) || !Known(a, a.Now) {
			t.Fatalf("flight %d of %d and %d doesn't hold: %+v", seed, n, limit, a)
		}
		if a.Flying {
			flying++
		}
	}
	if flying < 50 {
		t.Errorf("only %d flights ended with a state in flight", flying)
	}
}

func TestAFlightHoldsBehindEachEntry(t *testing.T) {
	for seed := range uint64(60) {
		n, limit := sizes(seed)
		l := longFlight(60, seed+20000, false)
		for i := range len(l) + 1 {
			if a := Follow(n, limit, l[:i]); !Holds(a) || !Known(a, a.Now) {
				t.Fatalf("flight %d doesn't hold behind %d entries: %+v", seed, i, a)
			}
		}
	}
}

func TestAFlightHoldsWhereEachWriteIsCut(t *testing.T) {
	for _, n := range []int{1, 2, 3, 12} {
		for op := range 6 {
			for _, mask := range masks() {
				var l []script.Entry
				for i := range 12 {
					l = append(l, by(does(toIsolate+i%2, i/2%4), cut(op, mask)), restart())
					// Now and then one is not cut.
					if i%3 == 2 {
						l = append(l, does(toIsolate+i/3%2, i%4))
					}
					if a := Follow(n, 99, l); !Holds(a) {
						t.Fatalf("cut at %d, with %q, of %d slots: %+v", op, mask, n, a)
					}
				}
				checkFollow(t, n, 99, l, followed(n, 99, l))
			}
		}
	}
}

func TestWhatIsHandedInStays(t *testing.T) {
	for seed := range uint64(20) {
		l := longFlight(40, seed, true)
		old := slices.Clone(l)
		a, b := Follow(2, 50, l), Follow(2, 50, l)
		if !sameEntries(l, old) || !sameAudit(a, b) {
			t.Fatalf("flight %d: %+v and %+v", seed, a, b)
		}
		// An answer is new memory.
		for i := range b.Acked {
			b.Acked[i] = state.State{Lat: 7}
		}
		_ = append(b.Acked, state.State{})
		if c := Follow(2, 50, l); !sameAudit(a, c) {
			t.Fatalf("flight %d: %+v and %+v", seed, a, c)
		}
		was := slices.Clone(a.Acked)
		Holds(a)
		Last(a)
		Known(a, state.State{Iso: 3})
		if !slices.Equal(a.Acked, was) {
			t.Fatalf("flight %d: the audit changed: %+v", seed, a)
		}
	}
}

// sameEntries tells whether two lists are alike; numbers that are none are alike here.
func sameEntries(l, m []script.Entry) bool {
	bits := math.Float64bits
	return slices.EqualFunc(l, m, func(a, b script.Entry) bool {
		return a.Kind == b.Kind && a.At == b.At && a.P == b.P && a.C.Kind == b.C.Kind && a.C.N == b.C.N &&
			bits(a.C.Lat) == bits(b.C.Lat) && bits(a.C.Lon) == bits(b.C.Lon) &&
			bits(a.V.Alt) == bits(b.V.Alt) && bits(a.V.Speed) == bits(b.V.Speed) && bits(a.V.Thrust) == bits(b.V.Thrust)
	})
}
