package bank

import (
	"math"
	"slices"
	"strings"
	"testing"

	"dogwatch/api"
	"dogwatch/clear"
	"dogwatch/flash"
	"dogwatch/layout"
	"dogwatch/record"
)

// The numbers of the document, by themselves.
const (
	placeBytes = 24
	mostSlots  = 12
)

// place is what may stand in a place, and what the document says of it there.
type place struct {
	s       string
	want    record.Record
	err     api.Errno
	atHead  int // its state as the header
	atSlots int // its state as a slot
}

// repeated is n bytes that all are b.
func repeated(n int, b byte) string {
	return strings.Repeat(string([]byte{b}), n)
}

// mixed is a text of n bytes that hangs on seed alone.
func mixed(n int, seed uint32) string {
	out := make([]byte, n)
	for i := range out {
		seed = seed*1664525 + 1013904223
		out[i] = byte(seed >> 24)
	}
	return string(out)
}

// changed is s, with the byte at at turned by by.
func changed(s string, at int, by byte) string {
	out := []byte(s)
	out[at] ^= by
	return string(out)
}

// committed is the place of a record that was written whole.
func committed(kind int, seq, data uint64) place {
	r := record.Record{Kind: kind, Seq: seq, Data: data}
	p := place{s: record.Encode(r), want: r, atHead: 1, atSlots: 2}
	if kind == 1 {
		p.atHead, p.atSlots = 2, 1
	}
	return p
}

// dirty is a place that Decode tells err of.
func dirty(s string, err api.Errno) place {
	return place{s: s, err: err, atHead: 1, atSlots: 1}
}

// marked is a body of the given kind, with other last bytes than the mark.
func marked(kind int, last string) place {
	return dirty(record.Body(record.Record{Kind: kind, Seq: 258, Data: 7})+last, 9)
}

// few are places of each way that a place may be.
func few() []place {
	return []place{
		{s: repeated(placeBytes, 255), err: 5},
		committed(1, 0, 0),
		committed(1, math.MaxUint64, 0),
		committed(2, 258, 7),
		committed(3, 0, math.MaxUint64),
		marked(1, "\xff\xff"),
		marked(2, "\xff\xff"),
		marked(2, "\x00\x00"),
		dirty(record.Encode(record.Record{Kind: 4, Seq: 1}), 8),
		dirty(repeated(placeBytes, 0), 6),
	}
}

// many are the few ones, and more of them.
func many() []place {
	out := append(few(),
		committed(1, 4, math.MaxUint64),
		committed(2, 0, 0),
		committed(2, math.MaxUint64, math.MaxUint64),
		committed(3, math.MaxUint64, 0),
		committed(3, 1<<63, 1),
		marked(1, "\x00\x00"),
		marked(3, "\xff\xff"),
		marked(3, "\x00\x00"),
		marked(1, "\x5a\xff"),
		marked(2, "\xff\x3c"),
		marked(3, "\x3c\x5a"),
		dirty(record.Encode(record.Record{Seq: 1}), 8),
		dirty(record.Encode(record.Record{Kind: 255}), 8),
		dirty("\xa5"+repeated(placeBytes-1, 255), 7),
		dirty(changed(record.Encode(record.Record{Kind: 1, Seq: 4}), 5, 1), 7),
		dirty(changed(record.Encode(record.Record{Kind: 2, Seq: 4}), 1, 3), 7),
		dirty(changed(record.Encode(record.Record{Kind: 1, Seq: 4}), 0, 128), 6),
		dirty(repeated(placeBytes-1, 255)+"\xfe", 6),
	)
	return out
}

// wrongs are numbers that are no place of any bank: below 0, above 12, and such as go round to a place, times 24.
func wrongs() []int {
	out := []int{
		13, 14, 16, 23, 24, 47, 48, 71, 72, 100, 256, 257, 312, 1 << 31, 1 << 32, 1<<32 + 1,
		1 << 60, 1 << 61, 1<<61 + 1, 1<<61 + 12, 1 << 62, 1<<62 + 1, 1<<62 + 1<<61 + 1,
		math.MaxInt - 12, math.MaxInt - 1, math.MaxInt, math.MaxInt / 24, math.MaxInt/24 + 1,
	}
	for i := range 13 {
		out = append(out, -1-i, math.MinInt+i, -1<<61+i, -1<<62+i)
	}
	return append(out, -24, -48, -72, -256, -1<<31, -1<<32, -1<<32+1, math.MinInt/24)
}

// joined is the bytes of places.
func joined(l []place) string {
	var out strings.Builder
	for _, p := range l {
		out.WriteString(p.s)
	}
	return out.String()
}

// noPlace tells where the calls answer of a place that there is not.
func noPlace(t *testing.T, s string, i int) {
	t.Helper()
	if got := Slot(s, i); got != "" {
		t.Fatalf("Slot %d of %q: %q", i, s, got)
	}
	if r, err := Record(s, i); r != (record.Record{}) || err != 1 {
		t.Fatalf("Record %d of %q: %v and error %d", i, s, r, err)
	}
	if got := State(s, i); got != 1 {
		t.Fatalf("State %d of %q: %d", i, s, got)
	}
}

// expect tells where the bank of the places l, the header's first, is not as the document says.
func expect(t *testing.T, l []place) {
	t.Helper()
	s := joined(l)
	var states []int
	for i, p := range l {
		if got := Slot(s, i); got != p.s {
			t.Fatalf("Slot %d of %q: %q, not %q", i, s, got, p.s)
		}
		if r, err := Record(s, i); r != p.want || err != p.err {
			t.Fatalf("Record %d of %q: %v and error %d, not %v and %d", i, s, r, err, p.want, p.err)
		}
		state := p.atSlots
		if i == 0 {
			state = p.atHead
		} else {
			states = append(states, state)
		}
		if got := State(s, i); got != state {
			t.Fatalf("State %d of %q: %d, not %d", i, s, got, state)
		}
	}
	noPlace(t, s, -1)
	noPlace(t, s, len(l))
	if got := States(s); !slices.Equal(got, states) {
		t.Fatalf("States of %q: %v, not %v", s, got, states)
	}
	seq, err := uint64(0), api.Errno(10)
	if l[0].atHead == 2 {
		seq, err = l[0].want.Seq, 0
	}
	if g, e := Generation(s); g != seq || e != err {
		t.Fatalf("Generation of %q: %d and error %d, not %d and %d", s, g, e, seq, err)
	}
}

// noBank tells where the calls answer of a text that has no slots.
func noBank(t *testing.T, s string) {
	t.Helper()
	for i := -2; i <= mostSlots+3; i++ {
		noPlace(t, s, i)
	}
	noPlace(t, s, math.MinInt)
	noPlace(t, s, math.MaxInt)
	if got := States(s); len(got) != 0 {
		t.Fatalf("States of %q: %v", s, got)
	}
	if g, e := Generation(s); g != 0 || e != 10 {
		t.Fatalf("Generation of %q: %d and error %d", s, g, e)
	}
}

// eachBank goes through the banks of n slots whose places are of all.
func eachBank(all []place, n int, do func(l []place)) {
	l := make([]place, n+1)
	var fill func(at int)
	fill = func(at int) {
		if at == len(l) {
			do(l)
			return
		}
		for _, p := range all {
			l[at] = p
			fill(at + 1)
		}
	}
	fill(0)
}

// picked is the bank of n slots whose places are of all, by seed.
func picked(all []place, n int, seed uint32) []place {
	var out []place
	for _, b := range []byte(mixed(n+1, seed)) {
		out = append(out, all[int(b)%len(all)])
	}
	return out
}

// P8.1, P8.2

func TestStatesAreCounted(t *testing.T) {
	if Blank != 0 || Dirty != 1 || Good != 2 {
		t.Errorf("the states are %d, %d and %d", Blank, Dirty, Good)
	}
}

func TestBankOfKnown(t *testing.T) {
	zeros := repeated(16, 0)
	head := "\xa5\x01" + zeros + "\x58\x3b\x6a\xf7\x5a\x3c"
	up := "\xa5\x02\x00\x00\x00\x00\x00\x00\x01\x02\x00\x00\x00\x00\x00\x00\x00\x07\xc7\xb6\xa0\xfb\x5a\x3c"
	snap := "\xa5\x03" + repeated(16, 255) + "\xd0\x26\x5e\xf0\x5a\x3c"
	s := head + up + snap + repeated(24, 255)
	for i, x := range []struct {
		s     string
		r     record.Record
		err   api.Errno
		state int
	}{
		{head, record.Record{Kind: 1}, 0, 2},
		{up, record.Record{Kind: 2, Seq: 258, Data: 7}, 0, 2},
		{snap, record.Record{Kind: 3, Seq: math.MaxUint64, Data: math.MaxUint64}, 0, 2},
		{repeated(24, 255), record.Record{}, 5, 0},
		{"", record.Record{}, 1, 1},
	} {
		r, err := Record(s, i)
		if got := Slot(s, i); got != x.s || r != x.r || err != x.err || State(s, i) != x.state {
			t.Errorf("place %d: %q, %v, error %d, state %d", i, got, r, err, State(s, i))
		}
	}
	if got := States(s); !slices.Equal(got, []int{2, 2, 0}) {
		t.Errorf("States: %v", got)
	}
	if g, err := Generation(s); g != 0 || err != 0 {
		t.Errorf("Generation: %d and error %d", g, err)
	}
	if got := States(snap + head); !slices.Equal(got, []int{1}) {
		t.Errorf("States of a snapshot and a header: %v", got)
	}
	if g, err := Generation(snap + head); g != 0 || err != 10 {
		t.Errorf("Generation of a snapshot and a header: %d and error %d", g, err)
	}
}

func TestAllBanksOfOneSlot(t *testing.T) {
	eachBank(many(), 1, func(l []place) { expect(t, l) })
}

func TestAllBanksOfTwoSlots(t *testing.T) {
	eachBank(few(), 2, func(l []place) { expect(t, l) })
}

// Each place of banks of each size has each of the ways to be, between others of all ways.
func TestEachPlaceOfEachSize(t *testing.T) {
	all := many()
	for n := 1; n <= mostSlots; n++ {
		for at := range n + 1 {
			for k, p := range all {
				l := picked(all, n, uint32(1000*n+100*at+k))
				l[at] = p
				expect(t, l)
			}
		}
	}
}

func TestBanksOfOneRecordAllOver(t *testing.T) {
	for n := 1; n <= mostSlots; n++ {
		for _, p := range many() {
			expect(t, slices.Repeat([]place{p}, n+1))
		}
	}
}

// Records that all differ, so that none is told for another.
func TestBanksOfDifferentRecords(t *testing.T) {
	for n := 1; n <= mostSlots; n++ {
		l := []place{committed(1, uint64(n), 0)}
		for i := 1; i <= n; i++ {
			l = append(l, committed(2+i%2, uint64(100*n+i), uint64(i)<<56))
		}
		expect(t, l)
	}
}

func TestGenerationsOfAllNumbers(t *testing.T) {
	seqs := []uint64{0, 1, 255, 256, math.MaxInt64, math.MaxUint64 - 1, math.MaxUint64}
	for k := range 64 {
		seqs = append(seqs, 1<<k, 1<<k-1)
	}
	for _, seq := range seqs {
		for _, data := range []uint64{0, 9, math.MaxUint64} {
			expect(t, []place{committed(1, seq, data), committed(2, ^seq, 1)})
			expect(t, []place{committed(2, seq, data), committed(1, seq, data)})
			expect(t, []place{committed(3, seq, data), committed(3, seq, data)})
		}
	}
}

// Whatever of a mark is there: a place is good just if all of it is.
func TestAllMarks(t *testing.T) {
	up, head := committed(2, 9, 1), committed(1, 4, 0)
	for m := range 1 << 16 {
		last := string([]byte{byte(m >> 8), byte(m)})
		if last == record.Mark() {
			continue
		}
		l := []place{dirty(head.s[:22]+last, 9), dirty(up.s[:22]+last, 9), up}
		s := joined(l)
		_, err := Generation(s)
		if !slices.Equal(States(s), []int{1, 2}) || State(s, 0) != 1 || err != 10 {
			t.Fatalf("with the last bytes %q: %d, %v, error %d", last, State(s, 0), States(s), err)
		}
	}
	expect(t, []place{head, up, up})
}

func TestKilledMarks(t *testing.T) {
	kill := repeated(22, 255) + "\x00\x00"
	for kind := 1; kind <= 3; kind++ {
		p := committed(kind, 5, 6)
		killed := dirty(clear.And(p.s, kill), 9)
		expect(t, []place{killed, p})
		expect(t, []place{p, killed})
		expect(t, []place{killed, killed, p, killed})
	}
}

func TestWrongPlaces(t *testing.T) {
	all := many()
	for n := 1; n <= mostSlots; n++ {
		for _, l := range [][]place{slices.Repeat(all[:1], n+1), slices.Repeat([]place{committed(2, 9, 1)}, n+1), picked(all, n, uint32(n))} {
			s := joined(l)
			for _, i := range wrongs() {
				noPlace(t, s, i)
			}
			for i := n + 1; i <= n+40; i++ {
				noPlace(t, s, i)
				noPlace(t, s, n-i)
			}
		}
	}
}

// slots is how many slots the document gives a bank of size bytes.
func slots(size int) int {
	if size%placeBytes != 0 || size < 2*placeBytes || size > (mostSlots+1)*placeBytes {
		return 0
	}
	return size/placeBytes - 1
}

func TestTextsOfNoBank(t *testing.T) {
	whole := strings.Repeat(committed(1, 4, 0).s, 21)
	for n := range 501 {
		if slots(n) > 0 {
			continue
		}
		for _, s := range []string{repeated(n, 255), repeated(n, 0), whole[:n], whole[len(whole)-n:], mixed(n, uint32(n))} {
			noBank(t, s)
		}
	}
}

func TestTextsOfNoBankByName(t *testing.T) {
	head, up := committed(1, 4, 0).s, committed(2, 9, 1).s
	for _, s := range []string{
		"", "\xff", head, up, repeated(24, 255), head[:23], head + up[:23], head + up + "\xff", "\xff" + head + up,
		head + strings.Repeat(up, 13), strings.Repeat(head, 14), head + strings.Repeat(up, 12) + "x", repeated(400, 255),
		head + up[:22], "é" + head + up, repeated(312, 255) + "\x00", strings.Repeat(up, 1000),
	} {
		noBank(t, s)
	}
}

func TestStatesAreNewMemory(t *testing.T) {
	s := joined([]place{committed(1, 4, 0), committed(2, 9, 1), few()[0]})
	first := States(s)
	first[0], first[1] = 7, 7
	_ = append(first[:0], 8)
	if got := States(s); !slices.Equal(got, []int{2, 0}) {
		t.Errorf("States: %v, behind a change to what was told", got)
	}
}

func TestAnswersHangOnTheTextAlone(t *testing.T) {
	for range 3 {
		expect(t, []place{committed(1, 4, 0), committed(2, 9, 1)})
		noBank(t, "")
		expect(t, []place{committed(3, 4, 0), committed(1, 9, 1), marked(1, "\xff\xff")})
	}
}

// P8.3

// isNew tells where a bank is not as a new one of n slots.
func isNew(t *testing.T, s string, n int) {
	t.Helper()
	for i := range n + 1 {
		if State(s, i) != 0 || Slot(s, i) != repeated(placeBytes, 255) {
			t.Fatalf("place %d of a new bank of %d slots: %d, %q", i, n, State(s, i), Slot(s, i))
		}
		if r, err := Record(s, i); r != (record.Record{}) || err != 5 {
			t.Fatalf("place %d of a new bank of %d slots: %v and error %d", i, n, r, err)
		}
	}
	if got := States(s); !slices.Equal(got, make([]int, n)) {
		t.Fatalf("a new bank of %d slots: %v", n, got)
	}
	if g, err := Generation(s); g != 0 || err != 10 {
		t.Fatalf("a new bank of %d slots: generation %d and error %d", n, g, err)
	}
}

func TestNewBanks(t *testing.T) {
	for n := 1; n <= mostSlots; n++ {
		isNew(t, repeated(placeBytes*(n+1), 255), n)
		f := flash.New(layout.Size(n), 3)
		isNew(t, f.Banks[0], n)
		isNew(t, f.Banks[1], n)
	}
}

func TestErasedBanksAreNew(t *testing.T) {
	for n := 1; n <= mostSlots; n++ {
		f := flash.New(layout.Size(n), 3)
		for i := range n + 1 {
			var err api.Errno
			f, err = flash.Program(f, 1, layout.At(i), committed(min(i+1, 2), 7, 8).s)
			if err != api.OK {
				t.Fatal(err)
			}
			if State(f.Banks[1], i) != 2 {
				t.Fatalf("place %d of a bank of %d slots is not good, once it is programmed", i, n)
			}
		}
		if g, err := Generation(f.Banks[1]); g != 7 || err != 0 {
			t.Fatalf("a bank of %d slots: generation %d and error %d", n, g, err)
		}
		isNew(t, f.Banks[0], n)
		f, _ = flash.Erase(f, 1)
		isNew(t, f.Banks[1], n)
	}
}

// Any bit that is cleared takes its place, and that alone, out of the blank ones.
func TestNewBanksButOneBit(t *testing.T) {
	for _, n := range []int{1, 2, mostSlots} {
		blank := repeated(placeBytes*(n+1), 255)
		for bit := range 8 * len(blank) {
			s := changed(blank, bit/8, 1<<(bit%8))
			for i := range n + 1 {
				want := 0
				if i == bit/8/placeBytes {
					want = 1
				}
				if got := State(s, i); got != want {
					t.Fatalf("State %d, with bit %d cleared: %d, not %d", i, bit, got, want)
				}
			}
			if _, err := Generation(s); err != 10 {
				t.Fatalf("Generation, with bit %d cleared: error %d", bit, err)
			}
		}
	}
}
