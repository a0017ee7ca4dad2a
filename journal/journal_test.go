package journal

import (
	"encoding/binary"
	"hash/crc32"
	"math"
	"slices"
	"strings"
	"testing"

	"dogwatch/api"
	"dogwatch/flash"
	"dogwatch/pick"
	"dogwatch/plan"
	"dogwatch/power"
)

// The numbers of the document, by themselves.
const (
	placeBytes = 24
	mostSlots  = 12
	errArg     = 1
	errWorn    = 4
	errSpent   = 11
	most       = math.MaxUint64
	itsMark    = "\x5a\x3c"
	itsZeros   = "\x00\x00"
)

// same is n times the byte b.
func same(n int, b byte) string {
	return strings.Repeat(string([]byte{b}), n)
}

// mixed is a text of n bytes that hangs on seed alone.
func mixed(n int, seed uint32) string {
	out := make([]byte, n)
	for i := range out {
		seed = seed*1664525 + 1013904223
		out[i] = byte(seed >> 24)
	}
	return string(out)
}

// all is a mask that takes all of each op.
func all() string {
	return same(400, 255)
}

// put is a step that is not cut.
func put(data uint64) Step {
	return Step{Data: data, Cut: -1}
}

// cut is a step at whose op at the power goes.
func cut(data uint64, at int, mask string) Step {
	return Step{Data: data, Cut: at, Mask: mask}
}

// bodyOf is the 22 bytes of a record ahead of its mark, by what the document says of layer 7.
func bodyOf(kind byte, seq, data uint64) string {
	s := binary.BigEndian.AppendUint64([]byte{165, kind}, seq)
	s = binary.BigEndian.AppendUint64(s, data)
	return string(binary.LittleEndian.AppendUint32(s, crc32.ChecksumIEEE(s)))
}

// rec is the bytes of a record that was written whole.
func rec(kind byte, seq, data uint64) string {
	return bodyOf(kind, seq, data) + itsMark
}

// unmarked is the bytes of a record whose mark was not written.
func unmarked(kind byte, seq, data uint64) string {
	return bodyOf(kind, seq, data) + "\xff\xff"
}

// filled is the bank of n slots that begins with these places; the others are blank.
func filled(n int, places ...string) string {
	s := strings.Join(places, "")
	return s + same((n+1)*placeBytes-len(s), 255)
}

// full is the bank of n slots that all have records, up to this Seq.
func full(n int, generation, seq uint64) string {
	s := rec(1, generation, 0)
	for i := range n {
		s += rec(2, seq-uint64(n-1-i), uint64(i))
	}
	return s
}

// flashOf is a flash of these banks that may be erased often.
func flashOf(one, two string) flash.Flash {
	return flash.Flash{Banks: [2]string{one, two}, Erases: [2]int{3, 1}, Limit: 1000}
}

// turnedRound is f with its banks the other way round.
func turnedRound(f flash.Flash) flash.Flash {
	f.Banks[0], f.Banks[1] = f.Banks[1], f.Banks[0]
	f.Erases[0], f.Erases[1] = f.Erases[1], f.Erases[0]
	return f
}

// told is what is read of a flash, or of a bank of it.
type told struct {
	is    bool
	state pick.State
}

// stands is the record that these 24 bytes are; its kind is 0, if they are none.
func stands(s string) (kind byte, seq, data uint64) {
	seq, data = binary.BigEndian.Uint64([]byte(s[2:10])), binary.BigEndian.Uint64([]byte(s[10:18]))
	for kind := byte(1); kind <= 3; kind++ {
		if s == rec(kind, seq, data) {
			return kind, seq, data
		}
	}
	return 0, 0, 0
}

// look tells what is read of a bank, by its bytes alone.
func look(at int, s string) told {
	if len(s)%placeBytes != 0 || len(s) < 2*placeBytes || len(s) > (mostSlots+1)*placeBytes {
		return told{}
	}
	kind, generation, _ := stands(s[:placeBytes])
	if kind != 1 {
		return told{}
	}
	x := told{}
	for s = s[placeBytes:]; s != ""; s = s[placeBytes:] {
		if kind, seq, data := stands(s[:placeBytes]); kind >= 2 && (!x.is || seq >= x.state.Seq) {
			x = told{true, pick.State{Bank: at, Generation: generation, Seq: seq, Data: data}}
		}
	}
	return x
}

// read tells what is read of a flash, by its bytes alone.
func read(f flash.Flash) told {
	one, two := look(0, f.Banks[0]), look(1, f.Banks[1])
	if !one.is || two.is && two.state.Generation > one.state.Generation {
		return two
	}
	return one
}

// putted is what P12.1 says, op by op.
func putted(f flash.Flash, s Step) (flash.Flash, bool, api.Errno) {
	ops, err := plan.Plan(f, s.Data)
	if err != 0 {
		return f, false, err
	}
	for i, o := range ops {
		if i == s.Cut {
			f, err = power.Tear(f, o, s.Mask)
			return f, false, err
		}
		if f, err = power.Do(f, o); err != 0 {
			return f, false, err
		}
	}
	return f, read(f).is && read(f).state.Data == s.Data, 0
}

// played is what P12.2 says.
func played(l Log, s Step) Log {
	f, acked, err := putted(l.F, s)
	if err != 0 {
		return l
	}
	out := Log{F: f, Acked: l.Acked, Last: l.Last, Flying: l.Flying, Flight: l.Flight}
	if acked {
		out.Acked, out.Last, out.Flying, out.Flight = l.Acked+1, s.Data, false, 0
	} else if read(f) != read(l.F) {
		out.Flying, out.Flight = true, s.Data
	}
	return out
}

// puts tells where Put of f and s is not this.
func puts(t *testing.T, f flash.Flash, s Step, want flash.Flash, wantAcked bool, wantErr api.Errno) {
	t.Helper()
	if g, acked, err := Put(f, s); g != want || acked != wantAcked || err != wantErr {
		t.Fatalf("Put of %#v and %#v:\n%#v, %t and error %d, not\n%#v, %t and error %d", f, s, g, acked, err, want, wantAcked, wantErr)
	}
}

// plays tells where Play of l and s is not this.
func plays(t *testing.T, l Log, s Step, want Log) {
	t.Helper()
	if got := Play(l, s); got != want {
		t.Fatalf("Play of %#v and %#v:\n%#v, not\n%#v", l, s, got, want)
	}
}

// says tells where State of l is not this.
func says(t *testing.T, l Log, want uint64, wantIs bool) {
	t.Helper()
	if data, is := State(l); data != want || is != wantIs {
		t.Fatalf("State of %#v: %d and %t, not %d and %t", l, data, is, want, wantIs)
	}
}

// opsOf is how many ops the plan of f and data has.
func opsOf(t *testing.T, f flash.Flash, data uint64) int {
	t.Helper()
	ops, err := plan.Plan(f, data)
	if err != 0 || len(ops) == 0 {
		t.Fatalf("Plan of %#v and %d: %d ops and error %d", f, data, len(ops), err)
	}
	return len(ops)
}

// stages are flashes of n slots of all ways to be written to: such as plans and their cuts leave, and others.
func stages(n int) []flash.Flash {
	var out []flash.Flash
	for _, f := range []flash.Flash{
		flashOf(filled(n), filled(n)),
		flashOf(filled(n, rec(1, 4, 0), rec(3, 9, 1)), filled(n)),
		flashOf(full(n, 4, 100), filled(n)),
		flashOf(full(n, 4, 100), full(n, 3, 88)),
		flashOf(full(n, 4, 100), full(n, 4, 101)),
		flashOf(full(n, 4, 100), filled(n, rec(1, 9, 0))),
		flashOf(full(n, 4, 100), filled(n, unmarked(1, 5, 0), rec(3, 101, 0))),
		flashOf(full(n, 4, 100), "\x00\x00"+full(n, 3, 88)[2:]),
		flashOf(full(n, 4, 100), same((n+1)*placeBytes, 0)),
		flashOf(full(n, 4, 100), mixed((n+1)*placeBytes, 8)),
		flashOf(mixed((n+1)*placeBytes, 9), mixed((n+1)*placeBytes, 10)),
		flashOf(filled(n, rec(1, 4, 0)), filled(n, unmarked(1, 5, 0))),
		flashOf(filled(n, rec(1, 0, 0), rec(3, 0, 0)), filled(n)),
		flashOf(full(n, most-1, most-1), full(n, most-2, most-9)),
	} {
		out = append(out, f, turnedRound(f))
	}
	return out
}

// wrong is a flash to which nothing can be written, and the error that tells so.
type wrong struct {
	f   flash.Flash
	err api.Errno
}

func wrongs() []wrong {
	old := [2]string{full(2, 4, 10), full(2, 3, 8)}
	blank := flash.New(72, 1).Banks
	return []wrong{
		{flash.New(72, 0), errWorn},
		{flash.New(312, 0), errWorn},
		{flash.Flash{Banks: old, Erases: [2]int{0, 1}, Limit: 1}, errWorn},
		{flash.Flash{Banks: old, Limit: -1}, errWorn},
		{flash.Flash{Banks: old, Erases: [2]int{-9, 5}, Limit: 4}, errWorn},
		{flash.Flash{Banks: old, Erases: [2]int{0, math.MaxInt}, Limit: 5}, errWorn},
		{flash.Flash{Banks: blank, Erases: [2]int{1, 1}, Limit: 1}, errWorn},
		{flash.Flash{Banks: blank, Erases: [2]int{-1, -1}, Limit: math.MinInt}, errWorn},
		{flash.Flash{Banks: [2]string{mixed(72, 1), mixed(72, 2)}}, errWorn},
		{flashOf(filled(2, rec(1, 4, 0), rec(3, most, 1)), filled(2)), errSpent},
		{flashOf(filled(2), filled(2, rec(1, 4, 0), rec(3, most, 1))), errSpent},
		{flashOf(full(2, 4, most), full(2, 3, 8)), errSpent},
		{flashOf(full(2, most, 10), full(2, 3, 8)), errSpent},
		{flash.Flash{Banks: [2]string{full(2, most, 10), filled(2)}}, errSpent},
		{flash.Flash{}, errArg},
		{flash.New(0, 5), errArg},
		{flash.New(24, 5), errArg},
		{flash.New(70, 5), errArg},
		{flash.New(336, 5), errArg},
		{flash.New(400, 5), errArg},
		{flashOf(full(2, 4, 10), ""), errArg},
		{flashOf("", full(2, 4, 10)), errArg},
		{flashOf(full(2, 4, 10), filled(3)), errArg},
		{flashOf(filled(1), full(2, 4, most)), errArg},
		{flashOf(full(2, 4, 10)+"\xff", full(2, 3, 8)+"\xff"), errArg},
		{flashOf(full(2, 4, 10), filled(2)[1:]), errArg},
		{flash.Flash{Banks: [2]string{full(2, most, most), full(3, 3, 8)}, Erases: [2]int{-1, 7}}, errArg},
	}
}

// masks are such as take nothing, some, and all of an op.
func masks() []string {
	out := []string{
		"", all(), same(400, 0), same(400, 1), same(400, 254), "\x01", "\x00\x01", "\x04", "\xff", "\x00\xff", "\x7f\xff",
		"\xfe" + same(399, 255), same(18, 255), same(24, 0) + same(376, 255), same(21, 255) + "\x00\xff", same(500, 255),
	}
	for seed := range uint32(4) {
		out = append(out, mixed(400, seed))
	}
	return out
}

// uncut are cuts at which a plan of this many ops has none.
func uncut(ops int) []int {
	return []int{-1, ops, ops + 1, -2, -ops, 100, 256, 1 << 32, -1 << 32, 1<<32 + 1, math.MaxInt, math.MinInt}
}

// P12.1

// The document's second example: an erase and four programs, two programs, and the other bank.
func TestPutOfKnownBytes(t *testing.T) {
	blank := same(placeBytes, 255)
	head := "\xa5\x01\x00\x00\x00\x00\x00\x00\x00\x01\x00\x00\x00\x00\x00\x00\x00\x00\x1b\x2f\x11\xe0\x5a\x3c"
	if head != rec(1, 1, 0) {
		t.Fatalf("%q", rec(1, 1, 0))
	}
	f := flash.New(72, 2)
	for _, x := range []struct {
		data     uint64
		one, two string
		erases   [2]int
	}{
		{7, head + rec(3, 1, 7) + blank, blank + blank + blank, [2]int{1, 0}},
		{8, head + rec(3, 1, 7) + rec(2, 2, 8), blank + blank + blank, [2]int{1, 0}},
		{8, head + rec(3, 1, 7) + rec(2, 2, 8), rec(1, 2, 0) + rec(3, 3, 8) + blank, [2]int{1, 1}},
		{0, head + rec(3, 1, 7) + rec(2, 2, 8), rec(1, 2, 0) + rec(3, 3, 8) + rec(2, 4, 0), [2]int{1, 1}},
		{most, rec(1, 3, 0) + rec(3, 5, most) + blank, rec(1, 2, 0) + rec(3, 3, 8) + rec(2, 4, 0), [2]int{2, 1}},
	} {
		want := flash.Flash{Banks: [2]string{x.one, x.two}, Erases: x.erases, Limit: 2}
		puts(t, f, put(x.data), want, true, 0)
		f = want
	}
}

// Each op of a new flash's plan, cut by nothing, some and all.
func TestPutThatIsCut(t *testing.T) {
	torn := "\xff\xff" + bodyOf(3, 1, 7)[2:]
	for i, x := range []struct {
		s    Step
		want string
	}{
		{cut(7, 0, ""), filled(2)},
		{cut(7, 0, all()), filled(2)},
		{cut(7, 1, ""), filled(2)},
		{cut(7, 1, itsZeros+all()), filled(2, same(placeBytes, 255), torn)},
		{cut(7, 1, all()), filled(2, same(placeBytes, 255), unmarked(3, 1, 7))},
		{cut(7, 2, ""), filled(2, same(placeBytes, 255), unmarked(3, 1, 7))},
		{cut(7, 2, "\xff\x00"), filled(2, same(placeBytes, 255), bodyOf(3, 1, 7)+"\x5a\xff")},
		{cut(7, 2, "\xff\xff"), filled(2, same(placeBytes, 255), rec(3, 1, 7))},
		{cut(7, 3, ""), filled(2, same(placeBytes, 255), rec(3, 1, 7))},
		{cut(7, 3, "\xff"), filled(2, "\xa5"+same(23, 255), rec(3, 1, 7))},
		{cut(7, 3, all()), filled(2, unmarked(1, 1, 0), rec(3, 1, 7))},
		{cut(7, 4, ""), filled(2, unmarked(1, 1, 0), rec(3, 1, 7))},
		{cut(7, 4, "\x00\xff"), filled(2, bodyOf(1, 1, 0)+"\xff\x3c", rec(3, 1, 7))},
		{cut(7, 4, all()), filled(2, rec(1, 1, 0), rec(3, 1, 7))},
	} {
		f := flash.New(72, 9)
		g, acked, err := Put(f, x.s)
		want := flash.Flash{Banks: [2]string{x.want, filled(2)}, Erases: [2]int{1, 0}, Limit: 9}
		if g != want || acked || err != 0 {
			t.Errorf("%d: %#v, %t and error %d", i, g, acked, err)
		}
	}
}

// What the last op's mask takes whole is read back, but was not done whole: it is not acknowledged.
func TestPutThatIsCutAtItsLastOpByAll(t *testing.T) {
	for n := 1; n <= mostSlots; n++ {
		for _, f := range stages(n) {
			last := opsOf(t, f, 77) - 1
			whole, acked, err := Put(f, put(77))
			if x := read(whole); !acked || err != 0 || !x.is || x.state.Data != 77 {
				t.Fatalf("%#v: %v, %t and error %d", f, x, acked, err)
			}
			puts(t, f, cut(77, last, all()), whole, false, 0)
			puts(t, f, cut(77, last, "\xa5\xc3"), whole, false, 0)
			puts(t, f, cut(77, last+1, all()), whole, true, 0)
			puts(t, f, cut(77, last+1, ""), whole, true, 0)
		}
	}
}

// All ways to be written to, at all ops, and behind the last one.
func TestPut(t *testing.T) {
	for _, n := range []int{1, 2, 3, mostSlots} {
		for _, f := range stages(n) {
			ops := opsOf(t, f, 77)
			for _, mask := range masks() {
				for at := range ops {
					want, acked, err := putted(f, cut(77, at, mask))
					puts(t, f, cut(77, at, mask), want, acked, err)
				}
			}
			whole, _, _ := putted(f, put(77))
			for _, at := range uncut(ops) {
				puts(t, f, cut(77, at, ""), whole, true, 0)
				puts(t, f, cut(77, at, "\x01\x80"), whole, true, 0)
				puts(t, f, cut(77, at, all()), whole, true, 0)
			}
		}
	}
}

// Data has no say in whether it is acknowledged, not where it is what was there, either.
func TestPutOfAllData(t *testing.T) {
	for _, data := range []uint64{0, 1, 2, 9, 255, 256, math.MaxUint32, 1 << 32, math.MaxInt64, math.MaxInt64 + 1, most - 1, most} {
		for _, f := range append(stages(2), flashOf(filled(2, rec(1, 4, 0), rec(3, 9, data)), filled(2))) {
			want, _, _ := putted(f, put(data))
			puts(t, f, put(data), want, true, 0)
			want, _, _ = putted(f, cut(data, 1, "\x01"))
			puts(t, f, cut(data, 1, "\x01"), want, false, 0)
		}
	}
}

// With an error the flash is as it is, wherever the power would go.
func TestPutThatGoesWrong(t *testing.T) {
	for _, x := range wrongs() {
		for _, at := range []int{-1, 0, 1, 4, 5, 6, math.MaxInt, math.MinInt} {
			for _, mask := range []string{"", "\x01", all()} {
				puts(t, x.f, cut(7, at, mask), x.f, false, x.err)
				puts(t, x.f, cut(0, at, mask), x.f, false, x.err)
			}
		}
	}
}

// P12.2

// Each of the three ways that a step may go, behind a log that has one in flight, and one that has none.
func TestPlayOfKnown(t *testing.T) {
	f := flashOf(filled(2, rec(1, 4, 0), rec(3, 9, 5)), filled(2))
	g := flashOf(filled(2, rec(1, 4, 0), rec(3, 9, 5), rec(2, 10, 6)), filled(2))
	h := flashOf(filled(2, rec(1, 4, 0), rec(3, 9, 5), unmarked(2, 10, 6)), filled(2))
	again := flashOf(filled(2, rec(1, 4, 0), rec(3, 9, 5), rec(2, 10, 5)), filled(2))
	spent := flashOf(full(2, most, 10), filled(2))
	for i, x := range []struct {
		l    Log
		s    Step
		want Log
	}{
		{Log{F: f, Acked: 3, Last: 5}, put(6), Log{F: g, Acked: 4, Last: 6}},
		{Log{F: f, Acked: 3, Last: 2, Flying: true, Flight: 5}, put(6), Log{F: g, Acked: 4, Last: 6}},
		{Log{F: f, Acked: 3, Last: 2, Flight: 5}, put(6), Log{F: g, Acked: 4, Last: 6}},
		{Log{F: f, Acked: 3, Last: 5}, cut(6, 0, all()), Log{F: h, Acked: 3, Last: 5}},
		{Log{F: f, Acked: 3, Last: 5}, cut(6, 1, ""), Log{F: h, Acked: 3, Last: 5}},
		{Log{F: f, Acked: 3, Last: 5}, cut(6, 1, all()), Log{F: g, Acked: 3, Last: 5, Flying: true, Flight: 6}},
		{Log{F: f, Acked: 3, Last: 5}, cut(5, 1, all()), Log{F: again, Acked: 3, Last: 5, Flying: true, Flight: 5}},
		{Log{F: f, Acked: 3, Last: 5}, cut(5, 1, ""), Log{F: flashOf(filled(2, rec(1, 4, 0), rec(3, 9, 5), unmarked(2, 10, 5)), filled(2)), Acked: 3, Last: 5}},
		{Log{F: f, Acked: 3, Last: 5}, put(5), Log{F: again, Acked: 4, Last: 5}},
		{Log{F: f, Acked: 3, Last: 2, Flying: true, Flight: 5}, cut(6, 1, ""), Log{F: h, Acked: 3, Last: 2, Flying: true, Flight: 5}},
		{Log{F: f, Acked: 3, Last: 2, Flying: true, Flight: 5}, cut(6, 1, all()), Log{F: g, Acked: 3, Last: 2, Flying: true, Flight: 6}},
		{Log{F: f, Acked: 3, Last: 2, Flight: 8}, cut(6, 1, ""), Log{F: h, Acked: 3, Last: 2, Flight: 8}},
		{Log{F: f, Acked: 3, Last: 2, Flight: 8}, cut(6, 1, all()), Log{F: g, Acked: 3, Last: 2, Flying: true, Flight: 6}},
		{Log{F: spent, Acked: 3, Last: 2}, put(6), Log{F: spent, Acked: 3, Last: 2}},
		{Log{F: spent, Acked: 3, Last: 2, Flying: true, Flight: 8}, put(6), Log{F: spent, Acked: 3, Last: 2, Flying: true, Flight: 8}},
		{Log{F: spent, Acked: 3, Last: 2, Flying: true, Flight: 8}, cut(6, 0, all()), Log{F: spent, Acked: 3, Last: 2, Flying: true, Flight: 8}},
		{Log{}, put(6), Log{}},
		{Log{Acked: -1, Last: 4, Flying: true, Flight: 2}, cut(6, 0, ""), Log{Acked: -1, Last: 4, Flying: true, Flight: 2}},
	} {
		if got := Play(x.l, x.s); got != x.want {
			t.Errorf("%d:\n%#v, not\n%#v", i, got, x.want)
		}
	}
}

// logs are such as may be built by hand.
func logs(f flash.Flash) []Log {
	var out []Log
	for _, acked := range []int{0, 1, 7, -1, -2, math.MaxInt, math.MinInt} {
		for _, flying := range []bool{false, true} {
			out = append(out,
				Log{F: f, Acked: acked, Flying: flying},
				Log{F: f, Acked: acked, Last: 7, Flying: flying, Flight: 9},
				Log{F: f, Acked: acked, Last: most, Flying: flying, Flight: most},
			)
		}
	}
	return out
}

func TestPlayOfAllLogs(t *testing.T) {
	for _, f := range stages(2) {
		ops := opsOf(t, f, 7)
		for i, l := range logs(f) {
			for at := -1; at <= ops; at++ {
				for _, mask := range []string{"", "\xff\x00\xff", all()} {
					for _, data := range []uint64{7 * uint64(i%2), read(f).state.Data} {
						plays(t, l, cut(data, at, mask), played(l, cut(data, at, mask)))
					}
				}
			}
		}
	}
}

// How many were acknowledged goes round.
func TestAckedGoesRound(t *testing.T) {
	f := flash.New(48, 1)
	g, _, _ := putted(f, put(3))
	plays(t, Log{F: f, Acked: math.MaxInt}, put(3), Log{F: g, Acked: math.MinInt, Last: 3})
	plays(t, Log{F: f, Acked: -1}, put(3), Log{F: g, Last: 3})
}

func TestPlayThatGoesWrong(t *testing.T) {
	for _, x := range wrongs() {
		for _, l := range logs(x.f) {
			for _, s := range []Step{put(7), put(0), cut(7, 0, ""), cut(8, 1, all()), cut(9, 4, all())} {
				plays(t, l, s, l)
			}
		}
	}
}

// A step that is cut is in flight just if something else is read, be it of another Seq alone.
func TestPlayOfTheSameState(t *testing.T) {
	for _, n := range []int{1, 2, 3, mostSlots} {
		for _, f := range stages(n) {
			x := read(f)
			l := Log{F: f, Acked: 5, Last: x.state.Data, Flying: true, Flight: 1000}
			ops := opsOf(t, f, x.state.Data)
			for at := range ops {
				for _, mask := range masks() {
					s := cut(x.state.Data, at, mask)
					g, _, _ := putted(f, s)
					want := Log{F: g, Acked: 5, Last: x.state.Data, Flying: true, Flight: 1000}
					if at == ops-1 && read(g).state.Seq == x.state.Seq+1 {
						want.Flight = x.state.Data
					}
					plays(t, l, s, want)
				}
			}
		}
	}
}

// The chapter's example, of all sizes that banks have.
func TestRunOfOneStep(t *testing.T) {
	for n := 1; n <= mostSlots; n++ {
		f := flash.New((n+1)*placeBytes, 1)
		want := flash.Flash{Banks: [2]string{filled(n, rec(1, 1, 0), rec(3, 1, 7)), filled(n)}, Erases: [2]int{1, 0}, Limit: 1}
		if got := Run(f, []Step{put(7)}); got != (Log{F: want, Acked: 1, Last: 7}) {
			t.Errorf("%d slots: %#v", n, got)
		}
	}
}

// runs are steps, what the document says of their log, from a new flash of two slots and the limit 2, and what is read.
type runs struct {
	l      []Step
	acked  int
	last   uint64
	flying bool
	flight uint64
	state  uint64
	is     bool
	erases [2]int
}

func known() []runs {
	return []runs{
		{nil, 0, 0, false, 0, 0, false, [2]int{0, 0}},
		{[]Step{put(0)}, 1, 0, false, 0, 0, true, [2]int{1, 0}},
		{[]Step{put(7), put(8)}, 2, 8, false, 0, 8, true, [2]int{1, 0}},
		{[]Step{put(7), put(8), put(9), put(10), put(11)}, 5, 11, false, 0, 11, true, [2]int{2, 1}},
		{[]Step{put(7), put(7), put(7)}, 3, 7, false, 0, 7, true, [2]int{1, 1}},
		// Nothing comes of what is cut ahead of the last op.
		{[]Step{cut(7, 0, ""), cut(8, 0, all()), cut(9, 3, all())}, 0, 0, false, 0, 0, false, [2]int{2, 1}},
		{[]Step{cut(7, 3, all()), put(8)}, 1, 8, false, 0, 8, true, [2]int{2, 0}},
		{[]Step{cut(7, 4, "\xa4\xc3"), put(8)}, 1, 8, false, 0, 8, true, [2]int{2, 0}},
		// One that is in flight, and what comes behind it.
		{[]Step{cut(0, 4, all())}, 0, 0, true, 0, 0, true, [2]int{1, 0}},
		{[]Step{cut(7, 4, "\xa5\xc3"), cut(8, 0, all())}, 0, 0, true, 7, 7, true, [2]int{1, 0}},
		{[]Step{cut(7, 4, all()), cut(8, 1, all())}, 0, 0, true, 8, 8, true, [2]int{1, 0}},
		{[]Step{cut(7, 4, all()), put(8)}, 1, 8, false, 0, 8, true, [2]int{1, 0}},
		{[]Step{put(7), cut(7, 1, all())}, 1, 7, true, 7, 7, true, [2]int{1, 0}},
		{[]Step{put(7), cut(7, 1, ""), cut(7, 0, "")}, 1, 7, false, 0, 7, true, [2]int{1, 1}},
		{[]Step{put(7), cut(8, 1, all()), cut(9, 4, all()), cut(1, 0, "\x02")}, 1, 7, true, 9, 9, true, [2]int{1, 1}},
		{[]Step{put(7), cut(8, 1, all()), cut(9, 4, ""), put(10)}, 2, 10, false, 0, 10, true, [2]int{1, 2}},
		// Worn out in the midst of the steps: these go wrong, whether one is in flight or none.
		{[]Step{put(7), put(8), cut(9, 0, ""), cut(9, 1, ""), put(5), put(6)}, 2, 8, false, 0, 8, true, [2]int{1, 2}},
		{[]Step{put(7), cut(8, 1, all()), cut(9, 0, ""), cut(9, 1, ""), put(5), cut(6, 0, all())}, 1, 7, true, 8, 8, true, [2]int{1, 2}},
		{[]Step{cut(7, 0, ""), cut(7, 1, ""), cut(7, 2, ""), cut(7, 3, ""), put(7)}, 0, 0, false, 0, 0, false, [2]int{2, 2}},
		{[]Step{cut(7, 0, ""), cut(7, 1, ""), cut(7, 2, ""), put(7), put(8), put(9)}, 2, 8, false, 0, 8, true, [2]int{2, 2}},
	}
}

func TestRunOfKnown(t *testing.T) {
	for i, x := range known() {
		got := Run(flash.New(72, 2), x.l)
		want := Log{F: got.F, Acked: x.acked, Last: x.last, Flying: x.flying, Flight: x.flight}
		if got != want || got.F.Erases != x.erases {
			t.Errorf("%d: %#v", i, got)
		}
		if got := read(got.F); got.is != x.is || got.state.Data != x.state {
			t.Errorf("%d: %v is read", i, got)
		}
		says(t, got, x.state, x.is)
	}
}

// Of a flash that has a state already, nothing was acknowledged, and nothing is in flight.
func TestRunOfNoSteps(t *testing.T) {
	for _, n := range []int{1, 2, mostSlots} {
		for _, f := range append(stages(n), flash.Flash{}, flash.New(72, 0), flashOf("x", full(2, 4, 9))) {
			for _, l := range [][]Step{nil, {}, make([]Step, 0, 5)} {
				if got := Run(f, l); got != (Log{F: f}) {
					t.Errorf("%#v: %#v", f, got)
				}
			}
		}
	}
}

// dice are steps that hang on seed alone: one in so many is cut.
func dice(n, oneIn int, seed uint32) []Step {
	ways, thrown := masks(), []byte(mixed(4*n, seed))
	var out []Step
	for i := range n {
		x := thrown[4*i : 4*i+4]
		s := Step{Data: uint64(x[0] / 16), Cut: int(x[1]/32) - 1, Mask: ways[int(x[2])%len(ways)]}
		if int(x[3])%oneIn != 0 {
			s.Cut = -1
		}
		out = append(out, s)
	}
	return out
}

// runsAs tells where Run of f and steps is not Play of all of them.
func runsAs(t *testing.T, f flash.Flash, steps []Step) {
	t.Helper()
	want := Log{F: f}
	for _, s := range steps {
		want = played(want, s)
	}
	if got := Run(f, steps); got != want {
		t.Fatalf("Run of %#v and %#v:\n%#v, not\n%#v", f, steps, got, want)
	}
}

// New flashes of all sizes, never cut, cut now and then, and cut each time.
func TestRunOfNewFlashes(t *testing.T) {
	for n := 1; n <= mostSlots; n++ {
		for limit := range 5 {
			for _, oneIn := range []int{1, 4, 256} {
				runsAs(t, flash.New((n+1)*placeBytes, limit), dice(60, oneIn, uint32(n*100+limit*10+oneIn)))
			}
		}
	}
}

func TestRunOfOtherFlashes(t *testing.T) {
	for _, n := range []int{1, 2, 3, mostSlots} {
		for i, f := range stages(n) {
			for _, left := range []int{0, 1, 3} {
				f.Limit = max(f.Erases[0], f.Erases[1]) + left
				runsAs(t, f, dice(15, 1, uint32(i*10+left)))
				runsAs(t, f, dice(15, 4, uint32(i*10+left)))
			}
		}
	}
}

// Steps that are run in two parts come to the same as in one.
func TestRunInTwoParts(t *testing.T) {
	f, steps := flash.New(72, 9), dice(40, 2, 77)
	whole := Run(f, steps)
	for i := range steps {
		l := Run(f, steps[:i])
		for _, s := range steps[i:] {
			l = Play(l, s)
		}
		if l != whole {
			t.Fatalf("in parts at %d: %#v, not %#v", i, l, whole)
		}
	}
}

func TestRunGoesWrong(t *testing.T) {
	for _, x := range wrongs() {
		if got := Run(x.f, []Step{put(7), cut(8, 0, all()), put(9)}); got != (Log{F: x.f}) {
			t.Errorf("%#v: %#v", x.f, got)
		}
	}
}

// What is handed in stays as it is, and one run has no say in another.
func TestRunKeepsNothing(t *testing.T) {
	steps := dice(30, 2, 5)
	kept := slices.Clone(steps)
	first := Run(flash.New(72, 9), steps)
	Run(flash.New(96, 9), dice(30, 1, 6))
	if again := Run(flash.New(72, 9), steps); again != first || !slices.Equal(steps, kept) {
		t.Errorf("%#v, and then %#v", first, again)
	}
}

// P12.3

func TestStateOfKnown(t *testing.T) {
	f := flashOf(filled(2, rec(1, 4, 0), rec(3, 9, 5)), filled(2))
	says(t, Log{F: f}, 5, true)
	says(t, Log{F: turnedRound(f)}, 5, true)
	says(t, Log{F: f, Acked: 3, Last: 2, Flying: true, Flight: 1}, 5, true)
	says(t, Log{F: flashOf(full(2, 4, 9), filled(2, rec(1, 5, 0), rec(3, 1, 0)))}, 0, true)
	says(t, Log{F: flashOf(full(2, 4, 9), filled(2, rec(1, 5, 0), rec(3, 1, most)))}, most, true)
	says(t, Log{F: flashOf(full(2, most, most), filled(2))}, 1, true)
	says(t, Log{F: flashOf(filled(2, rec(1, 0, 0), rec(3, 0, 0)), filled(2))}, 0, true)
	says(t, Log{}, 0, false)
	says(t, Log{Acked: 3, Last: 2, Flying: true, Flight: 1}, 0, false)
	says(t, Log{F: flash.New(72, 5), Acked: 3, Last: 2, Flying: true, Flight: 1}, 0, false)
	says(t, Log{F: flashOf(filled(2, rec(1, 4, 0), unmarked(3, 9, 5)), filled(2))}, 0, false)
	says(t, Log{F: flashOf(filled(2, unmarked(1, 4, 0), rec(3, 9, 5)), filled(2))}, 0, false)
	says(t, Log{F: flashOf("", full(3, 4, 9))}, 2, true)
	says(t, Log{F: flashOf(full(1, 4, 9), same(400, 0))}, 0, true)
}

func TestState(t *testing.T) {
	for n := 1; n <= mostSlots; n++ {
		for _, f := range stages(n) {
			x := read(f)
			for _, l := range logs(f) {
				says(t, l, x.state.Data, x.is)
			}
		}
	}
	for _, x := range wrongs() {
		says(t, Log{F: x.f, Acked: 2, Last: 3}, read(x.f).state.Data, read(x.f).is)
	}
}

func TestWear(t *testing.T) {
	for _, x := range []struct {
		erases [2]int
		want   int
	}{
		{[2]int{0, 0}, 0},
		{[2]int{3, 0}, 3},
		{[2]int{0, 4}, 4},
		{[2]int{3, 4}, 7},
		{[2]int{1000, 1000}, 2000},
		{[2]int{1 << 32, 1 << 40}, 1<<32 + 1<<40},
		{[2]int{-3, 1}, -2},
		{[2]int{-3, 3}, 0},
		{[2]int{math.MaxInt, 0}, math.MaxInt},
		{[2]int{math.MaxInt, 1}, math.MinInt},
		{[2]int{math.MaxInt, math.MaxInt}, -2},
		{[2]int{math.MinInt, -1}, math.MaxInt},
		{[2]int{math.MinInt, math.MinInt}, 0},
		{[2]int{math.MinInt, math.MaxInt}, -1},
	} {
		for _, limit := range []int{0, 5, -1, 1000} {
			for _, f := range []flash.Flash{{}, flash.New(72, 5), flashOf(full(2, 4, 9), "x")} {
				f.Erases, f.Limit = x.erases, limit
				if got := Wear(f); got != x.want {
					t.Errorf("Wear of %d: %d, not %d", x.erases, got, x.want)
				}
			}
		}
	}
}

// What a run erases is worn, torn or not.
func TestWearOfRuns(t *testing.T) {
	for i, x := range known() {
		if got := Wear(Run(flash.New(72, 2), x.l).F); got != x.erases[0]+x.erases[1] {
			t.Errorf("%d: %d", i, got)
		}
	}
}

// P12.4

// past is what became of steps, as a pilot would note it by what Put tells, and by what is read.
type past struct {
	f        flash.Flash
	acked    bool
	last     uint64
	inFlight bool
	flight   uint64
}

// next does a step, and tells where something else is read then than what was acknowledged, or was in flight.
func (p past) next(t *testing.T, s Step) past {
	t.Helper()
	was := read(p.f)
	g, acked, err := Put(p.f, s)
	is := read(g)
	switch {
	case err != 0:
		if g != p.f {
			t.Fatalf("%#v: error %d changes %#v", s, err, p.f)
		}
	case acked:
		p = past{f: g, acked: true, last: s.Data}
	case is != was:
		p = past{f: g, acked: p.acked, last: p.last, inFlight: true, flight: s.Data}
	}
	p.f = g
	ofLast := p.acked && !p.inFlight && is.is && is.state.Data == p.last
	ofFlight := p.inFlight && is.is && is.state.Data == p.flight
	nothing := !p.acked && !p.inFlight && !is.is
	if !ofLast && !ofFlight && !nothing {
		t.Fatalf("behind %#v: %#v, but %v is read", s, p, is)
	}
	return p
}

// choices are the steps that may be done next: each op is cut by none, some and all of it, or none is; the state is a new one, or the one that is there.
func choices(t *testing.T, f flash.Flash, data uint64) []Step {
	t.Helper()
	was := read(f).state.Data
	out := []Step{put(data), put(was)}
	ops, _ := plan.Plan(f, data)
	for at := range ops {
		for _, mask := range []string{"", same(400, 1), "\x01\x00\x81", all()} {
			out = append(out, cut(data, at, mask), cut(was, at, mask))
		}
	}
	return out
}

// From a new flash, all that may become of a few steps, one behind the other.
func TestAllShortRuns(t *testing.T) {
	for _, x := range []struct{ slots, limit, depth int }{{1, 1, 4}, {1, 2, 3}, {2, 1, 3}, {2, 2, 3}, {3, 2, 3}, {mostSlots, 1, 2}} {
		f := flash.New((x.slots+1)*placeBytes, x.limit)
		now := map[past]Log{{f: f}: {F: f}}
		for depth := range x.depth {
			then := map[past]Log{}
			for p, l := range now {
				for _, s := range choices(t, p.f, uint64(depth+1)) {
					q, m := p.next(t, s), Play(l, s)
					agrees(t, q, m)
					then[q] = m
				}
			}
			now = then
		}
	}
}

// agrees tells where a log says otherwise than what was noted beside it.
func agrees(t *testing.T, p past, l Log) {
	t.Helper()
	x := read(p.f)
	if l.F != p.f || l.Last != p.last || l.Acked > 0 != p.acked || l.Flying != p.inFlight || l.Flight != p.flight {
		t.Fatalf("%#v, but %#v", l, p)
	}
	says(t, l, x.state.Data, x.is)
}

// Long runs, till the flash is worn, and beyond.
func TestLongRuns(t *testing.T) {
	for _, n := range []int{1, 2, 3, 5, mostSlots} {
		for _, oneIn := range []int{1, 2, 5, 256} {
			for seed := range 12 {
				f := flash.New((n+1)*placeBytes, 1+seed%12)
				p, l := past{f: f}, Log{F: f}
				steps := dice(60, oneIn, uint32(seed*97+n))
				for _, s := range steps {
					p, l = p.next(t, s), Play(l, s)
					agrees(t, p, l)
				}
				if Run(f, steps) != l {
					t.Fatalf("Run of %#v", steps)
				}
			}
		}
	}
}

// marking tells whether a mask takes all bits that a mark clears.
func marking(mask string) bool {
	return mask[0]&0xa5 == 0xa5 && mask[1]&0xc3 == 0xc3
}

// The last op, a mark, is torn in many ways: its state is read, and in flight, just if all of the mark is there.
func TestTheLastOpIsTorn(t *testing.T) {
	var masks []string
	for bits := range 256 {
		masks = append(masks, string([]byte{byte(bits), 0xff}), string([]byte{0xff, byte(bits)}), string([]byte{byte(bits), 0xc3}), mixed(2, uint32(bits)))
	}
	for _, steps := range [][]Step{nil, {put(1)}, {put(1), put(2)}, {put(1), put(2), put(3), put(4)}, {put(1), cut(2, 1, all())}} {
		l := Run(flash.New(72, 9), steps)
		last := opsOf(t, l.F, 77) - 1
		for _, mask := range masks {
			got := Play(l, cut(77, last, mask))
			data, is := State(got)
			want := Log{F: got.F, Acked: l.Acked, Last: l.Last, Flying: l.Flying, Flight: l.Flight}
			wantData, wantIs := State(l)
			if marking(mask) {
				want.Flying, want.Flight, wantData, wantIs = true, 77, 77, true
			}
			if got != want || data != wantData || is != wantIs {
				t.Fatalf("behind %v, by %q: %#v", steps, mask, got)
			}
		}
	}
}

// Numbers at their ends: one more state is written, and then none.
func TestTheLastNumbers(t *testing.T) {
	for _, f := range []flash.Flash{
		flashOf(filled(3, rec(1, 4, 0), rec(3, most-1, 5)), filled(3)),
		flashOf(full(3, most-1, most-1), full(3, 3, 8)),
		flashOf(filled(3, rec(1, most, 0), rec(3, 7, 5), rec(2, 8, 6)), full(3, most-1, 9)),
	} {
		l := Run(f, []Step{put(20)})
		says(t, l, 20, true)
		for _, s := range []Step{put(21), cut(21, 0, all()), cut(21, 1, ""), put(20)} {
			plays(t, l, s, l)
		}
		torn := Run(f, []Step{cut(20, opsOf(t, f, 20)-1, all())})
		plays(t, torn, put(21), Log{F: l.F, Flying: true, Flight: 20})
	}
}

// Wrong inputs

// Erases that are negative hinder nothing; such as are more than the limit hinder only what has to erase.
func TestOddErases(t *testing.T) {
	left := flash.Flash{Banks: [2]string{filled(2, rec(1, 4, 0), rec(3, 9, 5)), filled(2)}, Erases: [2]int{7, 9}, Limit: 4}
	after := left
	after.Banks[0] = filled(2, rec(1, 4, 0), rec(3, 9, 5), rec(2, 10, 6))
	puts(t, left, put(6), after, true, 0)
	puts(t, after, put(7), after, false, errWorn)
	if got := Run(left, []Step{put(6), put(7)}); got != (Log{F: after, Acked: 1, Last: 6}) || Wear(got.F) != 16 {
		t.Errorf("%#v", got)
	}
	after.Erases = [2]int{7, -9}
	after.Limit = -8
	fresh := after
	fresh.Banks[1], fresh.Erases[1] = filled(2, rec(1, 5, 0), rec(3, 11, 7)), -8
	puts(t, after, put(7), fresh, true, 0)
	if got := Run(after, []Step{put(7), put(8), put(9)}); got.Acked != 2 || got.Last != 8 || Wear(got.F) != -1 {
		t.Errorf("%#v", got)
	}
}

// Bytes that no plan wrote: what they say is read, and states are written behind it.
func TestBytesThatNoPlanWrote(t *testing.T) {
	for i, f := range []flash.Flash{
		flashOf(filled(2, rec(1, 4, 99), rec(2, 9, 5)), filled(2, rec(1, 4, 0), rec(2, 50, 8))),
		flashOf(filled(3, rec(1, 0, 0), rec(1, 7, 7), rec(3, 0, 5)), filled(3)),
		flashOf(filled(3, rec(1, 4, 0), rec(3, 9, 5), rec(2, 9, 6)), same(96, 0)),
		flashOf(filled(3, rec(1, 4, 0), same(24, 255), rec(2, 9, 6)), mixed(96, 1)),
		flashOf(mixed(96, 2), mixed(96, 3)),
		flashOf(same(96, 0), same(96, 0)),
		flashOf(filled(3, rec(2, 4, 0), rec(3, 9, 5)), filled(3, rec(3, 4, 0), rec(3, 9, 5))),
	} {
		for _, g := range []flash.Flash{f, turnedRound(f)} {
			runsAs(t, g, dice(30, 2, uint32(i)))
			l := Run(g, []Step{put(20)})
			says(t, l, 20, true)
			if l.Acked != 1 || l.Last != 20 {
				t.Errorf("%d: %#v", i, l)
			}
		}
	}
}

// A header that no plan wrote is good again behind a torn erase: another bank is read, so that the step is in flight, though its state is not what is read.
func TestPlayThatChangesTheBankAlone(t *testing.T) {
	body := rec(3, 9, 5) + rec(2, 10, 6)
	spoilt := []byte(rec(1, 255, 0))
	spoilt[9] = 254
	byteNine := same(9, 0) + "\x01"
	f := flashOf(string(spoilt)+body, rec(1, 255, 0)+body)
	g := flashOf(rec(1, 255, 0)+body, rec(1, 255, 0)+body)
	g.Erases[0]++
	plays(t, Log{F: f, Acked: 2, Last: 6}, cut(7, 0, byteNine), Log{F: g, Acked: 2, Last: 6, Flying: true, Flight: 7})
	f.Banks[1] = rec(1, 4, 0) + rec(3, 9, 5) + rec(2, 10, 5)
	g.Banks[1] = f.Banks[1]
	plays(t, Log{F: f, Acked: 2, Last: 5}, cut(7, 0, byteNine), Log{F: g, Acked: 2, Last: 5, Flying: true, Flight: 7})
}
