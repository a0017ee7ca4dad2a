package plan

import (
	"encoding/binary"
	"hash/crc32"
	"math"
	"slices"
	"strings"
	"testing"

	"dogwatch/api"
	"dogwatch/flash"
	"dogwatch/pick"
	"dogwatch/power"
)

// The numbers of the document, by themselves.
const (
	placeBytes = 24
	mostSlots  = 12
	markAt     = 22
	errArg     = 1
	errWorn    = 4
	errNone    = 10
	errSpent   = 11
	most       = math.MaxUint64
	itsMark    = "\x5a\x3c"
)

// same is n times the byte b.
func same(n int, b byte) string {
	return strings.Repeat(string([]byte{b}), n)
}

// mixed is a text of n bytes that hangs on seed alone.
func mixed(n int, seed uint32) string {
	out := make([]byte, n)
	for i := range out {
		seed = seed*1664525 + 1013904223
		out[i] = byte(seed >> 24)
	}
	return string(out)
}

// numbers are such as stand at edges.
func numbers() []uint64 {
	return []uint64{0, 1, 2, 255, 256, 258, math.MaxUint32, 1 << 32, math.MaxInt64, math.MaxInt64 + 1, most - 1, most}
}

// bodyOf is the 22 bytes of a record ahead of its mark, by what the document says of layer 7.
func bodyOf(kind byte, seq, data uint64) string {
	s := binary.BigEndian.AppendUint64([]byte{165, kind}, seq)
	s = binary.BigEndian.AppendUint64(s, data)
	return string(binary.LittleEndian.AppendUint32(s, crc32.ChecksumIEEE(s)))
}

// rec is the bytes of a record that was written whole.
func rec(kind byte, seq, data uint64) string {
	return bodyOf(kind, seq, data) + itsMark
}

// unmarked is the bytes of a record whose mark was not written.
func unmarked(kind byte, seq uint64) string {
	return bodyOf(kind, seq, 7) + "\xff\xff"
}

// filled is the bank of n slots that begins with these places; the others are blank.
func filled(n int, places ...string) string {
	s := strings.Join(places, "")
	return s + same((n+1)*placeBytes-len(s), 255)
}

// run is n records of updates, whose Seq rises up to last.
func run(n int, last uint64) []string {
	var out []string
	for i := range n {
		out = append(out, rec(2, last-uint64(n-1-i), uint64(i)))
	}
	return out
}

// full is the bank of n slots that all have records, up to this Seq.
func full(n int, generation, seq uint64) string {
	return rec(1, generation, 0) + strings.Join(run(n, seq), "")
}

// flashOf is a flash of these banks that may be erased often.
func flashOf(one, two string) flash.Flash {
	return flash.Flash{Banks: [2]string{one, two}, Erases: [2]int{3, 1}, Limit: 1000}
}

// turnedRound is f with its banks the other way round.
func turnedRound(f flash.Flash) flash.Flash {
	f.Banks[0], f.Banks[1] = f.Banks[1], f.Banks[0]
	f.Erases[0], f.Erases[1] = f.Erases[1], f.Erases[0]
	return f
}

// places are where a slot's body and its mark begin, by what the document says of layer 5.
func places(slot int) (body, mark int) {
	if slot < 0 || slot > mostSlots {
		return -1, -1
	}
	return slot * placeBytes, slot*placeBytes + markAt
}

// appended is what P11.1 says.
func appended(bank, slot int, seq, data uint64) []power.Op {
	body, mark := places(slot)
	return []power.Op{
		{Kind: 1, Bank: bank, At: body, Data: bodyOf(2, seq, data)},
		{Kind: 1, Bank: bank, At: mark, Data: itsMark},
	}
}

// renewed is what P11.2 says.
func renewed(bank int, kill bool, generation, seq, data uint64) []power.Op {
	out := []power.Op{
		{Kind: 1, Bank: bank, At: 0, Data: "\x00\x00"},
		{Kind: 2, Bank: bank},
		{Kind: 1, Bank: bank, At: 24, Data: bodyOf(3, seq, data)},
		{Kind: 1, Bank: bank, At: 46, Data: itsMark},
		{Kind: 1, Bank: bank, At: 0, Data: bodyOf(1, generation, 0)},
		{Kind: 1, Bank: bank, At: 22, Data: itsMark},
	}
	if kill {
		return out
	}
	return out[1:]
}

// seen is what the document says of a bank's bytes.
type seen struct {
	slots           int
	head, good      bool // whether its header is good, and a slot
	generation, seq uint64
	data            uint64
	next            int
}

// stands is the record that these 24 bytes are; its kind is 0, if they are none.
func stands(s string) (kind byte, seq, data uint64) {
	seq, data = binary.BigEndian.Uint64([]byte(s[2:10])), binary.BigEndian.Uint64([]byte(s[10:18]))
	for kind := byte(1); kind <= 3; kind++ {
		if s == rec(kind, seq, data) {
			return kind, seq, data
		}
	}
	return 0, 0, 0
}

// look tells what stands in a bank.
func look(s string) seen {
	if len(s)%placeBytes != 0 || len(s) < 2*placeBytes || len(s) > (mostSlots+1)*placeBytes {
		return seen{}
	}
	x := seen{slots: len(s)/placeBytes - 1, next: 1}
	if kind, generation, _ := stands(s[:placeBytes]); kind == 1 {
		x.head, x.generation = true, generation
	}
	for i := 1; i <= x.slots; i++ {
		part := s[i*placeBytes : (i+1)*placeBytes]
		if part != same(placeBytes, 255) {
			x.next = i + 1
		}
		if kind, seq, data := stands(part); kind >= 2 && (!x.good || seq >= x.seq) {
			x.good, x.seq, x.data = true, seq, data
		}
	}
	if x.next > x.slots {
		x.next = 0
	}
	return x
}

// counting is the bank that counts of both, by what the document says of layer 10; -1, if none does.
func counting(both [2]seen) int {
	at := -1
	for i, x := range both {
		if x.head && x.good && (at < 0 || x.generation > both[at].generation) {
			at = i
		}
	}
	return at
}

// planned is what P11.3 says.
func planned(f flash.Flash, data uint64) ([]power.Op, api.Errno) {
	both := [2]seen{look(f.Banks[0]), look(f.Banks[1])}
	worn := [2]bool{f.Erases[0] >= f.Limit, f.Erases[1] >= f.Limit}
	if both[0].slots == 0 || both[0].slots != both[1].slots {
		return nil, errArg
	}
	at := counting(both)
	if at < 0 {
		for i := range both {
			if !worn[i] {
				return renewed(i, both[i].head, 1, 1, data), 0
			}
		}
		return nil, errWorn
	}
	x, other := both[at], 1-at
	switch {
	case x.seq == most:
		return nil, errSpent
	case x.next != 0:
		return appended(at, x.next, x.seq+1, data), 0
	case x.generation == most:
		return nil, errSpent
	case worn[other]:
		return nil, errWorn
	}
	return renewed(other, both[other].head, x.generation+1, x.seq+1, data), 0
}

// is tells where Plan of f and data is not the ops of want, or tells another error.
func is(t *testing.T, f flash.Flash, data uint64, want []power.Op, wantErr api.Errno) {
	t.Helper()
	if got, err := Plan(f, data); !slices.Equal(got, want) || err != wantErr {
		t.Fatalf("Plan of %#v and %d:\n%#v and error %d, not\n%#v and error %d", f, data, got, err, want, wantErr)
	}
}

// expect tells where Plan of f and data is not as the document says, and answers it.
func expect(t *testing.T, f flash.Flash, data uint64) ([]power.Op, api.Errno) {
	t.Helper()
	want, err := planned(f, data)
	is(t, f, data, want, err)
	return want, err
}

// played does ops, which must not go wrong, up to cut, and that one by mask.
func played(t *testing.T, f flash.Flash, ops []power.Op, cut int, mask string) flash.Flash {
	t.Helper()
	done := len(ops)
	if cut >= 0 && cut < done {
		done = cut
	}
	g, n, err := power.Play(f, ops, cut, mask)
	if n != done || err != 0 {
		t.Fatalf("Play of %#v and %#v, cut at %d: %d done, error %d", f, ops, cut, n, err)
	}
	return g
}

// reads tells where f does not say just what want says.
func reads(t *testing.T, f flash.Flash, want pick.State, wantErr api.Errno) {
	t.Helper()
	if got, err := pick.Read(f); got != want || err != wantErr {
		t.Fatalf("of %#v is read %v and error %d, not %v and error %d", f, got, err, want, wantErr)
	}
}

// written is the state that is read, when all of the plan of f and data is done.
func written(f flash.Flash, data uint64) pick.State {
	old, err := pick.Read(f)
	if err != 0 {
		at := 0
		if f.Erases[0] >= f.Limit {
			at = 1
		}
		return pick.State{Bank: at, Generation: 1, Seq: 1, Data: data}
	}
	old.Seq, old.Data = old.Seq+1, data
	if look(f.Banks[old.Bank]).next == 0 {
		old.Bank, old.Generation = 1-old.Bank, old.Generation+1
	}
	return old
}

// P11.1

func TestAppendOfKnownBytes(t *testing.T) {
	want := []power.Op{
		{Kind: 1, Bank: 1, At: 48, Data: "\xa5\x02\x00\x00\x00\x00\x00\x00\x01\x02\x00\x00\x00\x00\x00\x00\x00\x07\xc7\xb6\xa0\xfb"},
		{Kind: 1, Bank: 1, At: 70, Data: "\x5a\x3c"},
	}
	if got := Append(1, 2, 258, 7); !slices.Equal(got, want) {
		t.Errorf("%#v", got)
	}
}

// noBanks are numbers that no bank has, some of which are 0 or 1 in fewer bits.
func noBanks() []int {
	return []int{-1, 2, 3, 256, 257, -256, 1 << 32, 1<<32 + 1, math.MaxInt, math.MinInt, math.MinInt + 1}
}

// noSlots are numbers that no slot has, some of which come to one in fewer bits, or times 24.
func noSlots() []int {
	return []int{-1, -2, -24, 13, 14, 24, 255, 256, 257, 1<<32 + 1, 1 << 61, 1<<61 + 1, 1 << 62, math.MaxInt, math.MinInt}
}

// Slots and banks that there are, and such as there are not: a slot that there is not has the place -1.
func TestAppend(t *testing.T) {
	slots := noSlots()
	for slot := range mostSlots + 1 {
		slots = append(slots, slot)
	}
	for _, bank := range append(noBanks(), 0, 1) {
		for _, slot := range slots {
			for _, seq := range numbers() {
				data := mostSlots*seq + 5
				if got := Append(bank, slot, seq, data); !slices.Equal(got, appended(bank, slot, seq, data)) {
					t.Fatalf("Append of %d, %d, %d and %d: %#v", bank, slot, seq, data, got)
				}
			}
		}
	}
}

func TestAppendOfAllNumbers(t *testing.T) {
	for _, seq := range numbers() {
		for _, data := range numbers() {
			if got := Append(1, 12, seq, data); !slices.Equal(got, appended(1, 12, seq, data)) {
				t.Fatalf("Append of %d and %d: %#v", seq, data, got)
			}
		}
	}
}

// Such ops go wrong, and leave a flash as it is.
func TestAppendWhereThereIsNoSlot(t *testing.T) {
	f := flash.New(13*placeBytes, 1)
	for _, slot := range noSlots() {
		for _, o := range Append(0, slot, 1, 1) {
			if g, err := power.Do(f, o); g != f || err != api.ErrBounds {
				t.Errorf("slot %d: error %d", slot, err)
			}
		}
	}
	for _, bank := range noBanks() {
		for _, o := range append(Append(bank, 1, 1, 1), Fresh(bank, true, 1, 1, 1)...) {
			if g, err := power.Do(f, o); g != f || err != api.ErrArg {
				t.Errorf("bank %d: error %d", bank, err)
			}
		}
	}
}

// P11.2

func TestFreshOfKnownBytes(t *testing.T) {
	want := []power.Op{
		{Kind: 1, Bank: 1, At: 0, Data: "\x00\x00"},
		{Kind: 2, Bank: 1, At: 0, Data: ""},
		{Kind: 1, Bank: 1, At: 24, Data: "\xa5\x03\xff\xff\xff\xff\xff\xff\xff\xff\xff\xff\xff\xff\xff\xff\xff\xff\xd0\x26\x5e\xf0"},
		{Kind: 1, Bank: 1, At: 46, Data: "\x5a\x3c"},
		{Kind: 1, Bank: 1, At: 0, Data: "\xa5\x01\x00\x00\x00\x00\x00\x00\x00\x00\x00\x00\x00\x00\x00\x00\x00\x00\x58\x3b\x6a\xf7"},
		{Kind: 1, Bank: 1, At: 22, Data: "\x5a\x3c"},
	}
	if got := Fresh(1, true, 0, most, most); !slices.Equal(got, want) {
		t.Errorf("with kill: %#v", got)
	}
	if got := Fresh(1, false, 0, most, most); !slices.Equal(got, want[1:]) {
		t.Errorf("without: %#v", got)
	}
}

func TestFresh(t *testing.T) {
	for _, bank := range append(noBanks(), 0, 1) {
		for _, kill := range []bool{false, true} {
			for _, generation := range numbers() {
				for _, seq := range numbers() {
					data := 3*seq + generation + 1
					want := renewed(bank, kill, generation, seq, data)
					if got := Fresh(bank, kill, generation, seq, data); !slices.Equal(got, want) {
						t.Fatalf("Fresh of %d, %t, %d, %d and %d: %#v", bank, kill, generation, seq, data, got)
					}
				}
			}
		}
	}
}

func TestFreshOfAllData(t *testing.T) {
	for _, data := range numbers() {
		if got := Fresh(0, true, 5, 9, data); !slices.Equal(got, renewed(0, true, 5, 9, data)) {
			t.Errorf("Fresh of %d: %#v", data, got)
		}
	}
}

// P11.3

// The chapter's example, of all sizes that banks have.
func TestPlanOfNewFlash(t *testing.T) {
	for n := 1; n <= mostSlots; n++ {
		f := flash.New((n+1)*placeBytes, 1)
		is(t, f, 7, renewed(0, false, 1, 1, 7), 0)
	}
}

func TestPlanOfKnown(t *testing.T) {
	blank, dirt := same(placeBytes, 255), same(placeBytes, 0)
	head, one, two := rec(1, 4, 0), rec(3, 9, 1), rec(2, 10, 2)
	empty, old := blank+blank+blank, rec(1, 3, 0)+rec(3, 7, 5)+rec(2, 8, 6)
	for i, x := range []struct {
		one, two string
		want     []power.Op
	}{
		{empty, empty, renewed(0, false, 1, 1, 70)},
		{head + one + blank, empty, appended(0, 2, 10, 70)},
		{empty, head + one + blank, appended(1, 2, 10, 70)},
		{head + one + blank, old, appended(0, 2, 10, 70)},
		{old, head + one + blank, appended(1, 2, 10, 70)},
		{head + one + blank + blank, empty + blank, appended(0, 2, 10, 70)},
		{head + one + dirt + blank, empty + blank, appended(0, 3, 10, 70)},
		{head + dirt + one + blank, empty + blank, appended(0, 3, 10, 70)},
		{head + blank + one + blank, empty + blank, appended(0, 3, 10, 70)},
		{head + two + one + blank, empty + blank, appended(0, 3, 11, 70)},
		{head + one + two, empty, renewed(1, false, 5, 11, 70)},
		{empty, head + one + two, renewed(0, false, 5, 11, 70)},
		{head + two + one, empty, renewed(1, false, 5, 11, 70)},
		{head + one + two, old, renewed(1, true, 5, 11, 70)},
		{old, head + one + two, renewed(0, true, 5, 11, 70)},
		{head + one + dirt, empty, renewed(1, false, 5, 10, 70)},
		{old, head + one + dirt, renewed(0, true, 5, 10, 70)},
		{head + one + unmarked(2, 10), old, renewed(1, true, 5, 10, 70)},
		{head + one + head, empty, renewed(1, false, 5, 10, 70)},
		{head + blank + one, empty, renewed(1, false, 5, 10, 70)},
		{head + one + two, rec(1, 3, 0) + blank + blank, renewed(1, true, 5, 11, 70)},
		{head + one + two, rec(1, 9, 0) + blank + blank, renewed(1, true, 5, 11, 70)},
		{head + one + two, rec(1, 9, 0) + dirt + dirt, renewed(1, true, 5, 11, 70)},
		{head + one + two, rec(1, 4, 8) + one + two, renewed(1, true, 5, 11, 70)},
		{head + one + two, unmarked(1, 9) + one + two, renewed(1, false, 5, 11, 70)},
		{head + one + two, "\x00\x00" + old[2:], renewed(1, false, 5, 11, 70)},
		{head + one + two, dirt + dirt + dirt, renewed(1, false, 5, 11, 70)},
		{head + one + two, one + two + two, renewed(1, false, 5, 11, 70)},
		{head + one + two, two + head + head, renewed(1, false, 5, 11, 70)},
		{blank + one + two, empty, renewed(0, false, 1, 1, 70)},
		{head + blank + blank, empty, renewed(0, true, 1, 1, 70)},
		{head + dirt + blank, rec(1, 5, 0) + dirt + dirt, renewed(0, true, 1, 1, 70)},
		{empty, head + dirt + dirt, renewed(0, false, 1, 1, 70)},
		{unmarked(1, most) + one + two, one + two + two, renewed(0, false, 1, 1, 70)},
		{rec(1, most, 0) + dirt + dirt, empty, renewed(0, true, 1, 1, 70)},
		{rec(1, 0, 0) + rec(3, 0, 0) + blank, empty, appended(0, 2, 1, 70)},
		{rec(1, 0, 0) + rec(3, 0, 0), blank + blank, renewed(1, false, 1, 1, 70)},
	} {
		got, err := Plan(flashOf(x.one, x.two), 70)
		if !slices.Equal(got, x.want) || err != 0 {
			t.Errorf("%d: %#v and error %d", i, got, err)
		}
	}
}

// heads are what may stand in the place 0.
func heads() []string {
	return []string{
		rec(1, 0, 0), rec(1, 4, 0), rec(1, 5, 9), rec(1, most-1, 0), rec(1, most, most),
		same(placeBytes, 255), unmarked(1, most), "\x00\x00" + rec(1, most, 0)[2:], rec(2, most, 0),
	}
}

// bodies are what may stand in the n slots.
func bodies(n int) [][]string {
	blank, dirt := same(placeBytes, 255), same(placeBytes, 0)
	out := [][]string{
		nil,
		{rec(3, 0, 1)},
		{unmarked(2, 9)},
		slices.Repeat([]string{dirt}, n),
		slices.Concat(slices.Repeat([]string{blank}, n-1), []string{rec(2, 9, 4)}),
		slices.Concat(run(n-1, 9), []string{unmarked(2, 10)}),
		slices.Concat(run(n-1, most), []string{unmarked(2, 10)}),
	}
	for _, seq := range []uint64{20, most - 1, most} {
		out = append(out, run(n, seq), run(n-1, seq))
	}
	return out
}

// banks are all of these heads, with all of these bodies.
func banks(n int) []string {
	var out []string
	for _, head := range heads() {
		for _, body := range bodies(n) {
			out = append(out, filled(n, head+strings.Join(body, "")))
		}
	}
	return out
}

// wears are how often both banks were erased, and how often they may be.
func wears() []flash.Flash {
	return []flash.Flash{
		{Limit: 1},
		{Erases: [2]int{1, 0}, Limit: 1},
		{Erases: [2]int{0, 1}, Limit: 1},
		{Erases: [2]int{1, 1}, Limit: 1},
		{Erases: [2]int{0, 0}, Limit: 0},
		{Erases: [2]int{999, 1001}, Limit: 1000},
	}
}

func TestPlanOfAllPairsOfBanks(t *testing.T) {
	for _, n := range []int{1, 2, 3} {
		all := banks(n)
		for i, one := range all {
			for j, two := range all {
				f := wears()[(i+j)%len(wears())]
				f.Banks = [2]string{one, two}
				expect(t, f, uint64(i))
			}
		}
	}
}

// The more slots, the fewer pairs.
func TestPlanOfAllNumbersOfSlots(t *testing.T) {
	for n := 4; n <= mostSlots; n++ {
		all := banks(n)
		for i, one := range all {
			for _, f := range wears() {
				f.Banks = [2]string{one, all[(i*7+n)%len(all)]}
				expect(t, f, uint64(n))
				expect(t, turnedRound(f), uint64(n))
			}
		}
	}
}

// A bank is filled up slot by slot.
func TestPlanOfEachSlot(t *testing.T) {
	for n := 1; n <= mostSlots; n++ {
		for used := 1; used <= n; used++ {
			s := filled(n, rec(1, 4, 0)+strings.Join(run(used, 100), ""))
			want := appended(0, used+1, 101, 8)
			if used == n {
				want = renewed(1, false, 5, 101, 8)
			}
			is(t, flashOf(s, filled(n)), 8, want, 0)
		}
	}
}

// Whatever stands in it, a slot that is not blank is not written to, nor one ahead of it.
func TestPlanSkipsWhatIsNotBlank(t *testing.T) {
	for _, dirt := range []string{
		unmarked(2, 10), unmarked(3, most), rec(1, 9, 9), rec(4, 9, 9), same(placeBytes, 0),
		same(placeBytes-1, 255) + "\xfe", "\x7f" + same(placeBytes-1, 255),
	} {
		s := filled(3, rec(1, 4, 0), rec(3, 9, 1), dirt)
		is(t, flashOf(s, filled(3)), 8, appended(0, 3, 10, 8), 0)
		is(t, flashOf(filled(3), s), 8, appended(1, 3, 10, 8), 0)
		s = filled(3, rec(1, 4, 0), rec(3, 9, 1), same(placeBytes, 255), dirt)
		is(t, flashOf(s, filled(3)), 8, renewed(1, false, 5, 10, 8), 0)
		is(t, flashOf(filled(3), s), 8, renewed(0, false, 5, 10, 8), 0)
	}
}

func TestSpentSeq(t *testing.T) {
	for n := 1; n <= mostSlots; n++ {
		for used := 1; used <= n; used++ {
			left := filled(n, rec(1, 4, 0)+strings.Join(run(used, most), ""))
			for _, f := range wears() {
				f.Banks = [2]string{left, filled(n)}
				is(t, f, 1, nil, errSpent)
				is(t, turnedRound(f), 1, nil, errSpent)
			}
		}
		// One less is not spent: the greatest Seq is written.
		is(t, flashOf(full(n, 4, most-1), filled(n)), 1, renewed(1, false, 5, most, 1), 0)
		if n > 1 {
			s := filled(n, rec(1, 4, 0), rec(2, most-1, 9))
			is(t, flashOf(s, filled(n)), 1, appended(0, 2, most, 1), 0)
		}
	}
}

// The Seq that counts is that of the bank that counts, and is the greatest one of it.
func TestSpentSeqThatDoesNotCount(t *testing.T) {
	is(t, flashOf(filled(2, rec(1, 4, 0), rec(2, 9, 0)), full(2, 3, most)), 1, appended(0, 2, 10, 1), 0)
	is(t, flashOf(filled(2, rec(1, 4, 0), rec(2, 9, 0)), filled(2, rec(1, 5, 0), unmarked(2, most))), 1, appended(0, 2, 10, 1), 0)
}

func TestSpentGeneration(t *testing.T) {
	for n := 1; n <= mostSlots; n++ {
		for _, other := range []string{filled(n), full(n, 3, 8), filled(n, rec(1, most, 0))} {
			for _, f := range wears() {
				f.Banks = [2]string{full(n, most, 100), other}
				is(t, f, 1, nil, errSpent)
				is(t, turnedRound(f), 1, nil, errSpent)
			}
		}
		// With slots left no generation is asked for; of one less the greatest one is written.
		if n > 1 {
			s := filled(n, rec(1, most, 0), rec(3, 9, 1))
			is(t, flashOf(s, filled(n)), 1, appended(0, 2, 10, 1), 0)
			is(t, flashOf(filled(n), s), 1, appended(1, 2, 10, 1), 0)
		}
		is(t, flashOf(full(n, most-1, 100), filled(n)), 1, renewed(1, false, most, 101, 1), 0)
		is(t, flashOf(filled(n), full(n, most-1, 100)), 1, renewed(0, false, most, 101, 1), 0)
	}
}

// A header of the greatest generation is not spent, where its bank does not count.
func TestSpentGenerationThatDoesNotCount(t *testing.T) {
	lone := filled(2, rec(1, most, 0))
	is(t, flashOf(lone, lone), 1, renewed(0, true, 1, 1, 1), 0)
	is(t, flashOf(full(2, 4, 9), lone), 1, renewed(1, true, 5, 10, 1), 0)
	is(t, flashOf(lone, full(2, 4, 9)), 1, renewed(0, true, 5, 10, 1), 0)
	is(t, flashOf(filled(2, unmarked(1, most), rec(2, most, 0)), filled(2)), 1, renewed(0, false, 1, 1, 1), 0)
}

// wear is how often a bank was erased, how often it may be, and what the document says of it.
type wear struct {
	erases, limit int
	worn          bool
}

// edges are the ends of what is worn, and what flash.New never makes.
func edges() []wear {
	return []wear{
		{0, 1, false}, {1, 1, true}, {2, 1, true}, {0, 0, true}, {1, 0, true}, {1000, 0, true},
		{999, 1000, false}, {1000, 1000, true}, {1001, 1000, true}, {0, 1000, false}, {1, 2, false},
		{-1, 0, false}, {0, -1, true}, {-1, -1, true}, {-2, -1, false},
		{math.MinInt, math.MaxInt, false}, {math.MaxInt, math.MinInt, true}, {math.MinInt, math.MinInt, true},
		{math.MaxInt - 1, math.MaxInt, false}, {math.MaxInt, math.MaxInt, true}, {1 << 32, 1, true}, {1, 1 << 32, false},
	}
}

// Only the wear of the bank that is to be fresh counts.
func TestWornOtherBank(t *testing.T) {
	for _, x := range edges() {
		for _, ownErases := range []int{0, 1000, math.MinInt, math.MaxInt} {
			for _, other := range []string{filled(2), full(2, 3, 8), filled(2, rec(1, 9, 0)), same(72, 0)} {
				f := flash.Flash{Banks: [2]string{full(2, 4, 10), other}, Erases: [2]int{ownErases, x.erases}, Limit: x.limit}
				kill := look(other).head
				if x.worn {
					is(t, f, 8, nil, errWorn)
					is(t, turnedRound(f), 8, nil, errWorn)
					continue
				}
				is(t, f, 8, renewed(1, kill, 5, 11, 8), 0)
				is(t, turnedRound(f), 8, renewed(0, kill, 5, 11, 8), 0)
			}
		}
	}
}

// What has slots left is not hindered by wear.
func TestWornBanksAreAppendedTo(t *testing.T) {
	s := filled(2, rec(1, 4, 0), rec(3, 9, 1))
	for _, x := range edges() {
		f := flash.Flash{Banks: [2]string{s, filled(2)}, Erases: [2]int{x.erases, x.erases}, Limit: x.limit}
		is(t, f, 8, appended(0, 2, 10, 8), 0)
		is(t, turnedRound(f), 8, appended(1, 2, 10, 8), 0)
	}
}

// Without a state bank 0 is taken, or, if it is worn, bank 1.
func TestWornBanksWithoutAState(t *testing.T) {
	head := filled(2, rec(1, most, 0))
	for _, x := range edges() {
		for _, y := range edges() {
			for _, pair := range [][2]string{{filled(2), filled(2)}, {filled(2), head}, {head, filled(2)}, {head, head}} {
				f := flash.Flash{Banks: pair, Erases: [2]int{x.erases, y.erases}, Limit: x.limit}
				switch {
				case !x.worn:
					is(t, f, 8, renewed(0, pair[0] == head, 1, 1, 8), 0)
				case y.erases < x.limit:
					is(t, f, 8, renewed(1, pair[1] == head, 1, 1, 8), 0)
				default:
					is(t, f, 8, nil, errWorn)
				}
			}
		}
	}
}

// A new flash whose bank 0 is worn, or whose banks both are.
func TestNewFlashThatIsWorn(t *testing.T) {
	f := flash.New(72, 2)
	f.Erases = [2]int{1, 2}
	is(t, f, 8, renewed(0, false, 1, 1, 8), 0)
	f.Erases = [2]int{2, 1}
	is(t, f, 8, renewed(1, false, 1, 1, 8), 0)
	f.Erases = [2]int{2, 2}
	is(t, f, 8, nil, errWorn)
	is(t, flash.New(72, 0), 8, nil, errWorn)
}

// Data has no say in what is planned, and stands in it as it is.
func TestPlanOfAllData(t *testing.T) {
	for _, data := range numbers() {
		is(t, flash.New(72, 1), data, renewed(0, false, 1, 1, data), 0)
		is(t, flashOf(full(2, 4, 10), full(2, 3, 8)), data, renewed(1, true, 5, 11, data), 0)
		is(t, flashOf(filled(2, rec(1, 4, 0), rec(2, 9, most)), filled(2)), data, appended(0, 2, 10, data), 0)
	}
}

func TestPlanOfAllSeqsAndGenerations(t *testing.T) {
	for _, g := range numbers() {
		for _, seq := range numbers() {
			expect(t, flashOf(filled(2, rec(1, g, 0), rec(3, seq, 1)), filled(2)), 5)
			expect(t, flashOf(filled(1, rec(1, g, 0), rec(3, seq, 1)), filled(1)), 5)
			expect(t, flashOf(filled(1, rec(1, 4, 0), rec(3, seq, 1)), filled(1, rec(1, g, 0), rec(2, 7, 2))), 5)
		}
	}
}

// Wrong inputs

// Each length, with what would be spent, or worn, or a plan, if the banks were even.
func TestBanksThatAreNotEven(t *testing.T) {
	head := full(mostSlots, 4, most) + same(100, 0)
	for one := range 401 {
		for _, two := range []int{0, 1, 23, 24, 47, 48, 49, 72, 311, 312, 313, 336, 400} {
			ok := one == two && one%placeBytes == 0 && one >= 48 && one <= 312
			for _, s := range []string{head, same(400, 255), same(400, 0)} {
				for _, limit := range []int{0, 10} {
					f := flash.Flash{Banks: [2]string{s[:one], s[:two]}, Limit: limit}
					if ok {
						expect(t, f, 5)
						continue
					}
					is(t, f, 5, nil, errArg)
					is(t, turnedRound(f), 5, nil, errArg)
				}
			}
		}
	}
}

func TestBanksOfTwoNumbersOfSlots(t *testing.T) {
	for n := 1; n <= mostSlots; n++ {
		for m := 1; m <= mostSlots; m++ {
			if n == m {
				continue
			}
			for _, s := range []string{filled(n), full(n, 4, 100), full(n, most, most), filled(n, rec(1, 4, 0))} {
				for _, f := range wears() {
					f.Banks = [2]string{s, filled(m)}
					is(t, f, 5, nil, errArg)
					is(t, turnedRound(f), 5, nil, errArg)
					f.Banks[1] = full(m, 5, 200)
					is(t, f, 5, nil, errArg)
					is(t, turnedRound(f), 5, nil, errArg)
				}
			}
		}
	}
}

func TestEmptyBanks(t *testing.T) {
	is(t, flash.Flash{}, 0, nil, errArg)
	is(t, flash.New(0, 5), 0, nil, errArg)
	is(t, flash.New(401, 5), 0, nil, errArg)
	is(t, flashOf("", full(2, 4, 10)), 0, nil, errArg)
	is(t, flashOf(full(2, 4, 10), ""), 0, nil, errArg)
	is(t, flashOf(full(2, 4, most), ""), 0, nil, errArg)
	is(t, flash.Flash{Banks: [2]string{full(2, 4, 10), ""}}, 0, nil, errArg)
}

// Two answers share no ops.
func TestAnswersAreNew(t *testing.T) {
	f := flashOf(full(2, 4, 10), full(2, 3, 8))
	for _, plan := range []func() []power.Op{
		func() []power.Op { return Append(0, 1, 2, 3) },
		func() []power.Op { return Fresh(1, true, 2, 3, 4) },
		func() []power.Op { return Fresh(1, false, 2, 3, 4) },
		func() []power.Op { ops, _ := Plan(f, 9); return ops },
	} {
		first, second := plan(), plan()
		kept := slices.Clone(second)
		for i := range first {
			first[i] = power.Op{}
		}
		_ = append(first[:1], first...)
		if !slices.Equal(second, kept) || !slices.Equal(plan(), kept) {
			t.Errorf("%#v", second)
		}
	}
}

// P11.4

// A flash is written till it is worn, by plans that all are done whole.
func TestPlansDoneWhole(t *testing.T) {
	for n := 1; n <= mostSlots; n++ {
		for limit := range 4 {
			f := flash.New((n+1)*placeBytes, limit)
			for i := range 2 * n * limit {
				data := uint64(i) * 0x0101010101010101
				ops, err := expect(t, f, data)
				if err != 0 {
					t.Fatalf("%d slots, state %d of limit %d: error %d", n, i, limit, err)
				}
				f = played(t, f, ops, -1, "")
				bank := i / n
				reads(t, f, pick.State{Bank: bank % 2, Generation: uint64(bank + 1), Seq: uint64(i + 1), Data: data}, 0)
				if want := [2]int{bank/2 + 1, (bank + 1) / 2}; f.Erases != want {
					t.Fatalf("%d slots, state %d: erased %d, not %d", n, i, f.Erases, want)
				}
			}
			is(t, f, 5, nil, errWorn)
		}
	}
}

// The document's second example, and how it goes on.
func TestHowManyOpsStatesTake(t *testing.T) {
	f := flash.New(96, 5)
	var got []int
	for i := range 10 {
		ops, _ := Plan(f, uint64(i))
		f = played(t, f, ops, -1, "")
		got = append(got, len(ops))
	}
	if want := []int{5, 2, 2, 5, 2, 2, 6, 2, 2, 6}; !slices.Equal(got, want) {
		t.Errorf("%d ops, not %d", got, want)
	}
}

// stages are flashes of n slots of all ways to be planned on.
func stages(n int) []flash.Flash {
	var out []flash.Flash
	for _, f := range []flash.Flash{
		flashOf(filled(n), filled(n)),
		flashOf(filled(n, rec(1, 4, 0), rec(3, 9, 1)), filled(n)),
		flashOf(filled(n, rec(1, 4, 0)+strings.Join(run(max(n-1, 1), 30), "")), full(n, 3, 29)),
		flashOf(full(n, 4, 100), filled(n)),
		flashOf(full(n, 4, 100), full(n, 3, 88)),
		flashOf(full(n, 4, 100), full(n, 4, 101)),
		flashOf(full(n, 4, 100), filled(n, rec(1, 9, 0))),
		flashOf(full(n, 4, 100), filled(n, rec(1, most, 0), unmarked(3, 101))),
		flashOf(full(n, 4, 100), filled(n, unmarked(1, 5), rec(3, 101, 0))),
		flashOf(full(n, 4, 100), "\x00\x00"+full(n, 3, 88)[2:]),
		flashOf(full(n, 4, 100), same((n+1)*placeBytes, 0)),
		flashOf(filled(n, slices.Concat([]string{rec(1, 4, 0)}, run(n-1, 30), []string{unmarked(2, 31)})...), full(n, 3, 29)),
		flashOf(filled(n, rec(1, 4, 0)), filled(n, unmarked(1, 5))),
		flashOf(full(n, most-1, most-1), full(n, most-2, most-9)),
	} {
		out = append(out, f, turnedRound(f))
	}
	worn := flashOf(filled(n), filled(n))
	worn.Erases[0] = worn.Limit
	return append(out, worn)
}

// masks are such as take nothing, some, and all of an op.
func masks() []string {
	out := []string{
		"", same(400, 0), same(400, 255), same(400, 1), same(400, 254), "\x01", "\x00\x01", "\x04", "\xff", "\x00\xff", "\x7f\xff",
		"\xfe" + same(399, 255), same(18, 255), same(24, 0) + same(376, 255), same(21, 255) + "\x00\xff",
	}
	for seed := range uint32(8) {
		out = append(out, mixed(400, seed))
	}
	return out
}

// Ahead of its last op a plan changes nothing of what is read, whatever is cut, and how; when all is done, its state is read.
func TestPlansThatAreCut(t *testing.T) {
	for _, n := range []int{1, 2, 3, mostSlots} {
		for _, f := range stages(n) {
			old, oldErr := pick.Read(f)
			ops, err := expect(t, f, 77)
			if err != 0 {
				t.Fatalf("%#v: error %d", f, err)
			}
			for cut := range ops {
				for _, mask := range masks() {
					g := played(t, f, ops, cut, mask)
					if cut < len(ops)-1 {
						reads(t, g, old, oldErr)
					}
					again(t, g, 78)
				}
			}
			for _, none := range []int{-1, len(ops), math.MaxInt, math.MinInt} {
				reads(t, played(t, f, ops, none, ""), written(f, 77), 0)
			}
		}
	}
}

// again plans anew on a flash, and does all of that; there is no plan only where all numbers are spent, or a bank is worn.
func again(t *testing.T, f flash.Flash, data uint64) {
	t.Helper()
	ops, err := expect(t, f, data)
	if err == 0 {
		reads(t, played(t, f, ops, -1, ""), written(f, data), 0)
		return
	}
	old, _ := pick.Read(f)
	spent := err == errSpent && old.Seq == most
	worn := err == errWorn && f.Erases[1-old.Bank] >= f.Limit
	if !spent && !worn {
		t.Fatalf("%#v: error %d", f, err)
	}
}

// needed is the bits of a blank that a mark clears.
const needed = "\xa5\xc3"

// The last op, a mark, is torn in all ways: its state is read just if all of the mark is there.
func TestTheLastOpIsTorn(t *testing.T) {
	for _, f := range stages(2) {
		old, oldErr := pick.Read(f)
		ops, _ := Plan(f, 77)
		for bits := range 256 {
			mask := []byte{spread(bits&15, needed[0]), spread(bits>>4, needed[1])}
			g := played(t, f, ops, len(ops)-1, string(mask))
			if string(mask) == needed {
				reads(t, g, written(f, 77), 0)
				continue
			}
			reads(t, g, old, oldErr)
		}
	}
}

// spread lays the lowest bits of n to where within has bits.
func spread(n int, within byte) byte {
	var out byte
	for bit := byte(1); bit != 0; bit <<= 1 {
		if within&bit == 0 {
			continue
		}
		if n&1 == 1 {
			out |= bit
		}
		n >>= 1
	}
	return out
}

// A header that is good is killed ahead of an erase: however both are torn, one behind the other, it is not good again.
func TestKilledHeadersStayKilled(t *testing.T) {
	for _, other := range []string{full(2, 3, 8), filled(2, rec(1, 9, 0), unmarked(2, 9)), filled(2, rec(1, most, 0))} {
		f := flashOf(full(2, 4, 10), other)
		old, _ := pick.Read(f)
		ops, _ := Plan(f, 77)
		for bits := range 32 {
			// These are the bits that are 1 in the two bytes that a header begins with.
			g := played(t, f, ops, 0, string([]byte{spread(bits&15, 165), byte(bits >> 4)}))
			if good := look(g.Banks[1]).head; good != (bits == 0) {
				t.Fatalf("killed in the bits %b: good is %t", bits, good)
			}
			reads(t, g, old, 0)
			is(t, g, 78, renewed(1, bits == 0, 5, 11, 78), 0)
			for _, mask := range append(masks(), eachWay()...) {
				first, _ := Plan(g, 78)
				h := played(t, g, first, len(first)-5, mask)
				if look(h.Banks[1]).head {
					t.Fatalf("killed in the bits %b, erased in %q: its header is good", bits, mask)
				}
				reads(t, h, old, 0)
				is(t, h, 79, renewed(1, false, 5, 11, 79), 0)
			}
		}
	}
}

// eachWay is the masks that take one byte of a bank of two slots, and those that take all but one.
func eachWay() []string {
	var out []string
	for i := range 72 {
		one, others := []byte(same(72, 0)), []byte(same(72, 1))
		one[i], others[i] = 1, 0
		out = append(out, string(one), string(others))
	}
	return out
}

// goes does a plan op by op, the one at cut by mask; it tells where a header becomes good, or another good one, but by the last op.
func goes(t *testing.T, f flash.Flash, ops []power.Op, cut int, mask string) flash.Flash {
	t.Helper()
	for i, o := range ops {
		g, err := power.Do(f, o)
		if i == cut {
			g, err = power.Tear(f, o, mask)
		}
		if err != 0 {
			t.Fatalf("%#v of %#v: error %d", o, f, err)
		}
		for at := range g.Banks {
			was, now := look(f.Banks[at]), look(g.Banks[at])
			anew := now.head && (!was.head || was.generation != now.generation)
			if anew && (i < len(ops)-1 || at != o.Bank || o.At != markAt) {
				t.Fatalf("op %d of %#v: the header of bank %d is good, of generation %d", i, ops, at, now.generation)
			}
		}
		f = g
		if i == cut {
			break
		}
	}
	return f
}

// The power goes again and again, at many ops and in many ways, till the flash is worn: what is read is what was read ahead, or, behind a last op, the state that was being written.
func TestPlansThatAreCutAgainAndAgain(t *testing.T) {
	ways := masks()
	for _, n := range []int{1, 2, 3, mostSlots} {
		for seed := range 40 {
			f := flash.New((n+1)*placeBytes, 9)
			dice := []byte(mixed(3000, uint32(seed*100+n)))
			for i := 0; ; i++ {
				old, oldErr := pick.Read(f)
				ops, err := expect(t, f, uint64(i))
				if err != 0 {
					if err != errWorn {
						t.Fatalf("%#v: error %d", f, err)
					}
					break
				}
				next := written(f, uint64(i))
				cut := int(dice[3*i]/16) - 6
				mask := ways[int(dice[3*i+1])%len(ways)]
				f = goes(t, f, ops, cut, mask)
				got, gotErr := pick.Read(f)
				stays := got == old && gotErr == oldErr
				comes := got == next && gotErr == 0
				if cut == len(ops)-1 && (stays || comes) {
					continue
				}
				if whole := cut < 0 || cut >= len(ops); whole && !comes || !whole && !stays {
					t.Fatalf("cut at %d of %d: %v and error %d, behind %v and error %d", cut, len(ops), got, gotErr, old, oldErr)
				}
			}
		}
	}
}

// A torn erase wears a bank as a whole one does: the state that was there stays, but has none behind it.
func TestTornErasesWear(t *testing.T) {
	f := flash.Flash{Banks: [2]string{full(1, 4, 10), full(1, 3, 9)}, Erases: [2]int{3, 2}, Limit: 3}
	old, _ := pick.Read(f)
	ops, _ := Plan(f, 77)
	for _, mask := range masks() {
		g := played(t, f, ops, 1, mask)
		reads(t, g, old, 0)
		is(t, g, 78, nil, errWorn)
	}
	f = flash.New(48, 1)
	ops, _ = Plan(f, 77)
	for _, mask := range masks() {
		g := played(t, f, ops, 0, mask)
		is(t, g, 78, renewed(1, false, 1, 1, 78), 0)
		second, _ := Plan(g, 78)
		g = played(t, g, second, 0, mask)
		reads(t, g, pick.State{}, errNone)
		is(t, g, 79, nil, errWorn)
	}
}
