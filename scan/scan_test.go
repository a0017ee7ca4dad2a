package scan

import (
	"math"
	"slices"
	"strings"
	"testing"

	"dogwatch/api"
	"dogwatch/clear"
	"dogwatch/flash"
	"dogwatch/layout"
	"dogwatch/power"
	"dogwatch/record"
)

// The numbers of the document, by themselves.
const (
	placeBytes = 24
	mostSlots  = 12
	errNone    = 10
)

// The states of a slot, as the document counts them.
const (
	isBlank = 0
	isDirty = 1
	isGood  = 2
)

// place is what may stand in a place, and what the document says of it there.
type place struct {
	s      string
	state  int           // as a slot
	asHead bool          // whether it is good as the header
	r      record.Record // its record, if it is good as either
}

// answers are those of all four calls, of one bank.
type answers struct {
	last  record.Record
	err   api.Errno
	next  int
	good  int
	sound bool
}

// repeated is n bytes that all are b.
func repeated(n int, b byte) string {
	return strings.Repeat(string([]byte{b}), n)
}

// mixed is a text of n bytes that hangs on seed alone.
func mixed(n int, seed uint32) string {
	out := make([]byte, n)
	for i := range out {
		seed = seed*1664525 + 1013904223
		out[i] = byte(seed >> 24)
	}
	return string(out)
}

// blank is a place that was never written.
func blank() place {
	return place{s: repeated(placeBytes, 255), state: isBlank}
}

// dirty is a place of bytes that are no record, nor blank.
func dirty(s string) place {
	return place{s: s, state: isDirty}
}

// head is a header's record, which is good in place 0 alone.
func head(generation, data uint64) place {
	r := record.Record{Kind: 1, Seq: generation, Data: data}
	return place{s: record.Encode(r), state: isDirty, asHead: true, r: r}
}

// good is a record that is good in a slot; kind is 2 or 3.
func good(kind int, seq, data uint64) place {
	r := record.Record{Kind: kind, Seq: seq, Data: data}
	return place{s: record.Encode(r), state: isGood, r: r}
}

// unmarked is a body with other last bytes than the mark, of the greatest Seq there is.
func unmarked(kind int, last string) place {
	return dirty(record.Body(record.Record{Kind: kind, Seq: math.MaxUint64, Data: 7}) + last)
}

// turned is a good record with one bit of byte at turned, of the greatest Seq there is.
func turned(at int) place {
	s := []byte(good(2, math.MaxUint64, 7).s)
	s[at] ^= 1
	return dirty(string(s))
}

// dirts are places of each way to be dirty as a slot.
func dirts() []place {
	return []place{
		unmarked(2, "\xff\xff"),
		unmarked(3, "\xff\xff"),
		unmarked(1, "\xff\xff"),
		unmarked(2, "\x00\x00"),
		unmarked(2, "\x5a\xff"),
		unmarked(3, "\x3c\x5a"),
		turned(0), turned(1), turned(2), turned(9), turned(17), turned(21), turned(22), turned(23),
		dirty(record.Encode(record.Record{Kind: 4, Seq: math.MaxUint64})),
		dirty(record.Encode(record.Record{Seq: math.MaxUint64})),
		dirty(repeated(placeBytes, 0)),
		dirty(repeated(placeBytes-1, 255) + "\xfe"),
		dirty("\x7f" + repeated(placeBytes-1, 255)),
		head(math.MaxUint64, 8),
		head(0, 0),
	}
}

// goods are good records with a Seq each that stands at an edge.
func goods() []place {
	return []place{
		good(2, 0, 1), good(3, 0, 2), good(2, 1, 3), good(3, 255, 4), good(2, 256, 5),
		good(2, math.MaxInt64, 6), good(3, math.MaxInt64+1, 7), good(2, math.MaxUint64-1, 8),
		good(3, math.MaxUint64, 9), good(2, math.MaxUint64, math.MaxUint64), good(2, 256, 0),
	}
}

// few are places of each state, with the same and with other numbers.
func few() []place {
	return []place{
		blank(), dirts()[0], head(4, 0), good(2, 0, 1), good(3, 9, 2), good(2, 9, 3), good(2, math.MaxUint64, 4),
	}
}

// all are places of all ways.
func all() []place {
	return slices.Concat([]place{blank()}, dirts(), goods())
}

// joined is the bytes of places.
func joined(l []place) string {
	var out strings.Builder
	for _, p := range l {
		out.WriteString(p.s)
	}
	return out.String()
}

// told is what the document says of the bank of the places l, the header's first.
func told(l []place) answers {
	want := answers{err: errNone}
	for _, p := range l[1:] {
		if p.state != isGood {
			continue
		}
		if want.good == 0 || p.r.Seq > want.last.Seq || p.r.Seq == want.last.Seq {
			want.last = p.r
		}
		want.good++
		want.err = 0
	}
	n := len(l) - 1
	blanks := 0
	for blanks < n && l[n-blanks].state == isBlank {
		blanks++
	}
	if blanks > 0 {
		want.next = n - blanks + 1
	}
	want.sound = l[0].asHead && want.good > 0
	return want
}

// asked is what the calls say of a text.
func asked(s string) answers {
	r, err := Last(s)
	return answers{last: r, err: err, next: Next(s), good: Good(s), sound: Sound(s)}
}

// is tells where the calls do not answer want of s.
func is(t *testing.T, s string, want answers) {
	t.Helper()
	if got := asked(s); got != want {
		t.Fatalf("of %q: %v, not %v", s, got, want)
	}
}

// expect tells where the bank of the places l is not as the document says.
func expect(t *testing.T, l ...place) {
	t.Helper()
	is(t, joined(l), told(l))
}

// noBank tells where the calls answer of a text that has no slots.
func noBank(t *testing.T, s string) {
	t.Helper()
	is(t, s, answers{err: errNone})
}

// eachBank goes through the banks of n slots whose places are of l.
func eachBank(l []place, n int, do func(l []place)) {
	out := make([]place, n+1)
	var fill func(at int)
	fill = func(at int) {
		if at == len(out) {
			do(out)
			return
		}
		for _, p := range l {
			out[at] = p
			fill(at + 1)
		}
	}
	fill(0)
}

// picked is the bank of n slots whose places are of l, by seed.
func picked(l []place, n int, seed uint32) []place {
	var out []place
	for _, b := range []byte(mixed(n+1, seed)) {
		out = append(out, l[int(b)%len(l)])
	}
	return out
}

// seqs is a bank with a good header, whose slots are good and have these numbers, in order; their Data are 1 and on.
func seqs(l ...uint64) []place {
	out := []place{head(4, 0)}
	for i, seq := range l {
		out = append(out, good(2+i%2, seq, uint64(i+1)))
	}
	return out
}

// P9.1, P9.2, P9.3

func TestScanOfKnown(t *testing.T) {
	header := "\xa5\x01" + repeated(16, 0) + "\x58\x3b\x6a\xf7\x5a\x3c"
	up := "\xa5\x02\x00\x00\x00\x00\x00\x00\x01\x02\x00\x00\x00\x00\x00\x00\x00\x07\xc7\xb6\xa0\xfb\x5a\x3c"
	snap := "\xa5\x03" + repeated(16, 255) + "\xd0\x26\x5e\xf0\x5a\x3c"
	blanks, zeros := repeated(24, 255), repeated(24, 0)
	ofUp := record.Record{Kind: 2, Seq: 258, Data: 7}
	ofSnap := record.Record{Kind: 3, Seq: math.MaxUint64, Data: math.MaxUint64}
	for _, x := range []struct {
		s    string
		want answers
	}{
		{header + up + blanks, answers{ofUp, 0, 2, 1, true}},
		{header + up + zeros + blanks, answers{ofUp, 0, 3, 1, true}},
		{header + snap + up, answers{ofSnap, 0, 0, 2, true}},
		{header + up + snap + blanks, answers{ofSnap, 0, 3, 2, true}},
		{zeros + up + blanks + blanks, answers{ofUp, 0, 2, 1, false}},
		{blanks + up + blanks + snap, answers{ofSnap, 0, 0, 2, false}},
		{up + up, answers{ofUp, 0, 0, 1, false}},
		{header + blanks, answers{record.Record{}, 10, 1, 0, false}},
		{header + zeros + blanks, answers{record.Record{}, 10, 2, 0, false}},
		{header + header, answers{record.Record{}, 10, 0, 0, false}},
		{blanks + blanks + blanks, answers{record.Record{}, 10, 1, 0, false}},
		{"", answers{record.Record{}, 10, 0, 0, false}},
	} {
		is(t, x.s, x.want)
	}
}

func TestNextOfTheExample(t *testing.T) {
	for _, p := range dirts() {
		for _, ahead := range all() {
			if got := Next(ahead.s + good(2, 9, 1).s + p.s + blank().s); got != 3 {
				t.Fatalf("Next behind a good slot and %q: %d, not 3", p.s, got)
			}
		}
	}
}

func TestAllBanksOfOneSlot(t *testing.T) {
	eachBank(all(), 1, func(l []place) { expect(t, l...) })
}

func TestAllBanksOfTwoSlots(t *testing.T) {
	for _, ahead := range []place{head(4, 0), blank(), good(2, math.MaxUint64, 5)} {
		eachBank(all(), 1, func(l []place) { expect(t, ahead, l[0], l[1]) })
	}
}

func TestAllBanksOfFewSlots(t *testing.T) {
	for n := 1; n <= 3; n++ {
		eachBank(few(), n, func(l []place) { expect(t, l...) })
	}
}

// The three states of a slot in any order, behind a good header, with numbers that go up, and down.
func TestAllOrdersOfStates(t *testing.T) {
	for n := 1; n <= 6; n++ {
		eachBank([]place{blank(), dirts()[1], good(2, 0, 0)}, n-1, func(l []place) {
			up, down := []place{head(1, 0)}, []place{head(1, 0)}
			for i, p := range l {
				if p.state == isGood {
					up = append(up, good(2, uint64(i), uint64(i+1)))
					down = append(down, good(2, uint64(n-i), uint64(i+1)))
					continue
				}
				up, down = append(up, p), append(down, p)
			}
			expect(t, up...)
			expect(t, down...)
		})
	}
}

// Each place of banks of each size has each of the ways to be, between others of all ways.
func TestEachPlaceOfEachSize(t *testing.T) {
	for n := 1; n <= mostSlots; n++ {
		for at := range n + 1 {
			for k, p := range all() {
				l := picked(all(), n, uint32(1000*n+100*at+k))
				l[at] = p
				expect(t, l...)
				l[0] = head(uint64(k), 0)
				expect(t, l...)
			}
		}
	}
}

func TestSlotsOfOneWayAllOver(t *testing.T) {
	for n := 1; n <= mostSlots; n++ {
		for _, p := range all() {
			for _, ahead := range []place{head(4, 0), blank(), dirts()[0], p} {
				expect(t, slices.Concat([]place{ahead}, slices.Repeat([]place{p}, n))...)
			}
		}
	}
}

// P9.1

func TestLastOfNumbersInAnyOrder(t *testing.T) {
	for _, x := range []struct {
		seqs []uint64
		last int // the slot whose record is told
	}{
		{[]uint64{7}, 1},
		{[]uint64{7, 8}, 2},
		{[]uint64{8, 7}, 1},
		{[]uint64{7, 7}, 2},
		{[]uint64{0, 0, 0}, 3},
		{[]uint64{1, 0, 0}, 1},
		{[]uint64{9, 9, 8}, 2},
		{[]uint64{9, 8, 9}, 3},
		{[]uint64{8, 9, 9, 0}, 3},
		{[]uint64{math.MaxUint64, 0}, 1},
		{[]uint64{0, math.MaxUint64}, 2},
		{[]uint64{math.MaxUint64, math.MaxUint64}, 2},
		{[]uint64{math.MaxUint64, math.MaxUint64 - 1}, 1},
		{[]uint64{math.MaxInt64, math.MaxInt64 + 1}, 2},
		{[]uint64{math.MaxInt64 + 1, math.MaxInt64}, 1},
		{[]uint64{1 << 32, 1}, 1},
		{[]uint64{1<<53 + 1, 1 << 53}, 1},
		{[]uint64{1, 2, 3, 4, 5, 6, 7, 8, 9, 10, 11, 12}, 12},
		{[]uint64{12, 11, 10, 9, 8, 7, 6, 5, 4, 3, 2, 1}, 1},
		{[]uint64{5, 5, 5, 5, 5, 5, 5, 5, 5, 5, 5, 4}, 11},
	} {
		l := seqs(x.seqs...)
		r, err := Last(joined(l))
		if r != l[x.last].r || err != 0 {
			t.Errorf("Last of %v: %v and error %d, not that of slot %d", x.seqs, r, err, x.last)
		}
	}
}

// The greatest number stands in each slot, or in each two of them.
func TestLastOfEachSlot(t *testing.T) {
	for n := 1; n <= mostSlots; n++ {
		for one := 1; one <= n; one++ {
			for other := one; other <= n; other++ {
				numbers := make([]uint64, n)
				numbers[one-1], numbers[other-1] = 1, 1
				l := seqs(numbers...)
				if r, err := Last(joined(l)); r != l[other].r || err != 0 {
					t.Fatalf("Last of %v: %v and error %d", numbers, r, err)
				}
			}
		}
	}
}

// The header is no slot: whatever it is, it is not told, nor does it hinder.
func TestLastDoesNotReadTheHeader(t *testing.T) {
	for _, ahead := range append(all(), head(math.MaxUint64, math.MaxUint64)) {
		for _, p := range goods() {
			r, err := Last(joined([]place{ahead, p, blank()}))
			if r != p.r || err != 0 {
				t.Fatalf("Last behind %q: %v and error %d, not %v", ahead.s, r, err, p.r)
			}
		}
		for _, p := range append(dirts(), blank()) {
			r, err := Last(joined([]place{ahead, p, p}))
			if r != (record.Record{}) || err != errNone {
				t.Fatalf("Last behind %q, of no good slot: %v and error %d", ahead.s, r, err)
			}
		}
	}
}

// P9.2

// Slots that are used, the last one of each way, and blank ones behind.
func TestNextBehindEachSlot(t *testing.T) {
	for n := 1; n <= mostSlots; n++ {
		for used := range n + 1 {
			for _, p := range append(dirts(), goods()...) {
				l := append([]place{p}, slices.Repeat([]place{blank()}, n)...)
				want := 1
				if used > 0 {
					l[used] = p
					want = used + 1
				}
				if used == n {
					want = 0
				}
				if got := Next(joined(l)); got != want {
					t.Fatalf("Next of %d slots, slot %d being %q: %d, not %d", n, used, p.s, got, want)
				}
			}
		}
	}
}

func TestOneBitLessInTheLastSlot(t *testing.T) {
	for _, n := range []int{1, 2, mostSlots} {
		for bit := range 8 * placeBytes {
			last := []byte(blank().s)
			last[bit/8] ^= 1 << (bit % 8)
			l := slices.Repeat([]place{blank()}, n+1)
			l[n] = dirty(string(last))
			expect(t, l...)
		}
	}
}

func TestGoodCounts(t *testing.T) {
	for n := 1; n <= mostSlots; n++ {
		for k := range n + 1 {
			l := slices.Concat([]place{head(1, 0)}, slices.Repeat([]place{good(3, 5, 6)}, k), slices.Repeat([]place{head(9, 0)}, n-k))
			if got := Good(joined(l)); got != k {
				t.Fatalf("Good of %d slots with %d good ones: %d", n, k, got)
			}
		}
	}
}

// P9.3

func TestSoundNeedsHeaderAndSlot(t *testing.T) {
	for n := 1; n <= mostSlots; n++ {
		for at := 1; at <= n; at++ {
			l := slices.Repeat([]place{blank()}, n+1)
			for _, h := range []place{head(0, 0), head(math.MaxUint64, 0), head(1, 9)} {
				l[0], l[at] = h, good(2, 0, 0)
				if !Sound(joined(l)) {
					t.Fatalf("with a good header and slot %d of %d: not sound", at, n)
				}
				for _, p := range append(dirts(), blank()) {
					l[at] = p
					if Sound(joined(l)) {
						t.Fatalf("with a good header and slot %d of %d being %q: sound", at, n, p.s)
					}
				}
			}
			l[at] = good(2, 0, 0)
			for _, p := range all() {
				if l[0] = p; !p.asHead && Sound(joined(l)) {
					t.Fatalf("with a good slot behind the header %q: sound", p.s)
				}
			}
		}
	}
}

// Wrong inputs

// slots is how many slots the document gives a bank of size bytes.
func slots(size int) int {
	if size%placeBytes != 0 || size < 2*placeBytes || size > (mostSlots+1)*placeBytes {
		return 0
	}
	return size/placeBytes - 1
}

func TestTextsOfNoBank(t *testing.T) {
	whole := head(4, 0).s + strings.Repeat(good(2, 9, 1).s, 20)
	for n := range 501 {
		if slots(n) > 0 {
			continue
		}
		for _, s := range []string{repeated(n, 255), repeated(n, 0), whole[:n], whole[len(whole)-n:], mixed(n, uint32(n))} {
			noBank(t, s)
		}
	}
}

func TestTextsOfNoBankByName(t *testing.T) {
	h, up := head(4, 0).s, good(2, 9, 1).s
	for _, s := range []string{
		"", "\xff", h, up, blank().s, h[:23], h + up[:23], h + up + "\xff", "\xff" + h + up, h + up + "\n",
		h + strings.Repeat(up, 13), h + strings.Repeat(up, 12) + "\xff", repeated(400, 255), "é" + h + up, strings.Repeat(up, 1000),
	} {
		noBank(t, s)
	}
}

func TestOnePlaceAlone(t *testing.T) {
	for _, p := range append(all(), few()...) {
		noBank(t, p.s)
	}
}

// P9.4

// torn is the bank of l, in which the power goes at the op cut of an update's two, at slot.
func torn(t *testing.T, l []place, slot, cut int, mask string) string {
	t.Helper()
	f := flash.Flash{Banks: [2]string{"", joined(l)}, Limit: 1}
	r := record.Record{Kind: 2, Seq: math.MaxUint64, Data: 11}
	ops := []power.Op{
		{Kind: power.Program, Bank: 1, At: layout.At(slot), Data: record.Body(r)},
		{Kind: power.Program, Bank: 1, At: layout.Mark(slot), Data: record.Mark()},
	}
	f, _, err := power.Play(f, ops, cut, mask)
	if err != api.OK {
		t.Fatalf("an update at slot %d: error %d", slot, err)
	}
	return f.Banks[1]
}

// Whatever of a record's body is written, the one ahead of it is told, and the slot is not used again.
func TestSlotsThatWereTornAreSkipped(t *testing.T) {
	first := good(3, 9, 1)
	for slot := 2; slot <= mostSlots; slot++ {
		l := slices.Concat([]place{head(1, 0), first}, slices.Repeat([]place{blank()}, mostSlots-1))
		for i := 2; i < slot; i++ {
			l[i] = dirts()[i%2]
		}
		behind := slot + 1
		if slot == mostSlots {
			behind = 0
		}
		used := answers{last: first.r, next: behind, good: 1, sound: true}
		for bit := range 8 * 22 {
			mask := make([]byte, 22)
			mask[bit/8] = 1 << (bit % 8)
			s := torn(t, l, slot, 0, string(mask))
			want := used
			if s == joined(l) { // that bit is not cleared by the record, so that nothing was written
				want.next = slot
			}
			is(t, s, want)
		}
		is(t, torn(t, l, slot, 0, repeated(22, 255)), used)
		is(t, torn(t, l, slot, 1, ""), used)
		is(t, torn(t, l, slot, 1, "\xff"), used)
		is(t, torn(t, l, slot, 1, "\x00\xff"), used)
		whole := answers{last: record.Record{Kind: 2, Seq: math.MaxUint64, Data: 11}, next: behind, good: 2, sound: true}
		is(t, torn(t, l, slot, 1, "\xff\xff"), whole)
		is(t, torn(t, l, slot, 2, ""), whole)
	}
}

// All slots from the next one on are blank, the one ahead of it is not, and without one the last is not.
func TestBehindTheNextOneAllAreBlank(t *testing.T) {
	for seed := range 2000 {
		n := 1 + seed%mostSlots
		l := picked(all(), n, uint32(seed))
		for i := range seed / mostSlots % (n + 1) {
			l[n-i] = blank()
		}
		next := Next(joined(l))
		if next < 0 || next > n {
			t.Fatalf("Next of %d slots: %d", n, next)
		}
		from := next
		if next == 0 {
			from = n + 1
		}
		for _, p := range l[from:] {
			if p.state != isBlank {
				t.Fatalf("Next of %q: %d, and not all from there on are blank", joined(l), next)
			}
		}
		if from > 1 && l[from-1].state == isBlank {
			t.Fatalf("Next of %q: %d, and the slot ahead is blank", joined(l), next)
		}
	}
}

// What becomes of a bank with its dirty slots killed, or cut off whole, is what it was.
func TestDirtySlotsDoNotCount(t *testing.T) {
	for seed := range 2000 {
		l := picked(append(all(), head(3, 0)), 1+seed%mostSlots, uint32(seed))
		want := asked(joined(l))
		zeros, fewer := slices.Clone(l), l[:1:1]
		for i, p := range l {
			if i > 0 && p.state == isDirty {
				zeros[i] = dirty(clear.And(p.s, repeated(placeBytes, 0)))
			} else if i > 0 {
				fewer = append(fewer, p)
			}
		}
		is(t, joined(zeros), want)
		if len(fewer) == 1 {
			continue
		}
		got := asked(joined(fewer))
		if got.last != want.last || got.err != want.err || got.good != want.good || got.sound != want.sound {
			t.Fatalf("of %q: %v, and without its dirty slots %v", joined(l), want, got)
		}
	}
}

func TestAnswersHangOnTheTextAlone(t *testing.T) {
	for range 3 {
		expect(t, head(4, 0), good(2, 9, 1), blank())
		noBank(t, "")
		expect(t, blank(), good(3, 4, 0), head(9, 1))
	}
}
