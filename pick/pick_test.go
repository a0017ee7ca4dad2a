package pick

import (
	"math"
	"slices"
	"strings"
	"testing"

	"dogwatch/api"
	"dogwatch/flash"
	"dogwatch/layout"
	"dogwatch/power"
	"dogwatch/record"
)

// The numbers of the document, by themselves.
const (
	placeBytes = 24
	mostSlots  = 12
	errNone    = 10
)

// side is the bytes of a bank, and what the document says of them.
type side struct {
	s                     string
	sound                 bool
	generation, seq, data uint64
}

// rec is the bytes of a record that was written whole.
func rec(kind int, seq, data uint64) string {
	return record.Encode(record.Record{Kind: kind, Seq: seq, Data: data})
}

// unmarked is the bytes of a record's body, with other last bytes than the mark.
func unmarked(kind int, seq uint64, last string) string {
	return record.Body(record.Record{Kind: kind, Seq: seq, Data: 7}) + last
}

// filled is the bank of n slots that begins with these places; the others are blank.
func filled(n int, places ...string) string {
	s := strings.Join(places, "")
	return s + strings.Repeat("\xff", (n+1)*placeBytes-len(s))
}

// sound is the bank of n slots that has one record, in the slot at.
func sound(n, at int, generation, seq, data uint64) side {
	blank := strings.Repeat("\xff", placeBytes)
	places := append(slices.Repeat([]string{blank}, at), rec(2+at%2, seq, data))
	places[0] = rec(1, generation, 0)
	return side{filled(n, places...), true, generation, seq, data}
}

// unsounds are banks of n slots that are not sound; most of them have a part that would be of the greatest generation.
func unsounds(n int) []side {
	const most = math.MaxUint64
	head, up := rec(1, most, 0), rec(2, most, 8)
	turned := []byte(head)
	turned[9] ^= 1
	var out []side
	for _, s := range []string{
		filled(n),
		filled(n, head),
		filled(n, head, head),
		filled(n, head, unmarked(2, most, "\xff\xff")),
		filled(n, head, unmarked(3, most, "\x5a\xff")),
		filled(n, head, strings.Repeat("\x00", placeBytes)),
		filled(n, head, rec(4, most, 8)),
		filled(n, unmarked(1, most, "\xff\xff"), up),
		filled(n, unmarked(1, most, "\x00\x00"), up),
		filled(n, "\x00\x00"+head[2:], up),
		filled(n, string(turned), up),
		filled(n, rec(0, most, 0), up),
		filled(n, rec(2, most, 0), up),
		filled(n, rec(3, most, 0), up),
		filled(n, up, head),
		filled(n, strings.Repeat("\xff", placeBytes), up),
		strings.Repeat("\x00", (n+1)*placeBytes),
	} {
		out = append(out, side{s: s})
	}
	return out
}

// sounds are banks of n slots that are sound, with numbers at edges.
func sounds(n int) []side {
	const most = math.MaxUint64
	out := []side{
		sound(n, 1, 0, 0, 0),
		sound(n, n, 0, most, 1),
		sound(n, 1, 4, 9, 2),
		sound(n, n, 4, 3, 3),
		sound(n, n, 5, 3, 4),
		sound(n, 1, math.MaxInt64, 6, 5),
		sound(n, n, math.MaxInt64+1, 5, 6),
		sound(n, 1, most-1, 1, most),
		sound(n, n, most, 0, 7),
		{filled(n, rec(1, 4, most), rec(3, 9, 8)), true, 4, 9, 8},
	}
	if n > 1 {
		out = append(out,
			side{filled(n, rec(1, 4, 0), rec(3, 9, 1), rec(2, 3, 2)), true, 4, 9, 1},
			side{filled(n, rec(1, 4, 0), rec(3, 9, 1), rec(2, 9, 2)), true, 4, 9, 2},
			side{filled(n, rec(1, 4, 0), rec(3, 9, 1), rec(1, most, 2)), true, 4, 9, 1},
			side{filled(n, rec(1, 4, 0), unmarked(2, most, "\xff\xff"), rec(2, 9, 2)), true, 4, 9, 2},
			side{filled(n, rec(1, 4, 0), rec(2, 9, 2), unmarked(3, most, "\xff\xff")), true, 4, 9, 2},
		)
	}
	return out
}

// sides are banks of n slots, sound ones and others.
func sides(n int) []side {
	return append(unsounds(n), sounds(n)...)
}

// noBanks are texts whose length is that of no bank, though most of them begin, or end, as a sound one.
func noBanks() []side {
	s := sound(1, 1, math.MaxUint64, math.MaxUint64, 9).s
	up := s[placeBytes:]
	var out []side
	for _, s := range []string{
		"", "\xff", s[:placeBytes], up, s[:47], s[1:], s + "\xff", "\xff" + s, s + "\n", s + up[:23],
		s + strings.Repeat(up, mostSlots), s + strings.Repeat(up, mostSlots-1) + "\xff", s + strings.Repeat(up, 100),
		strings.Repeat("\xff", 400), strings.Repeat("\x00", 335), "é" + s,
	} {
		out = append(out, side{s: s})
	}
	return out
}

// flashOf is a flash of these banks, built by hand.
func flashOf(one, two side) flash.Flash {
	return flash.Flash{Banks: [2]string{one.s, two.s}, Erases: [2]int{3, 1}, Limit: 5}
}

// counts is the bank that counts of both, by the document.
func counts(one, two side) int {
	switch {
	case one.sound && two.sound && one.generation < two.generation:
		return 1
	case one.sound:
		return 0
	case two.sound:
		return 1
	}
	return -1
}

// is tells where the calls do not answer that the bank at counts, which is said.
func is(t *testing.T, f flash.Flash, at int, said side) {
	t.Helper()
	want, wantErr := State{}, api.Errno(errNone)
	if at >= 0 {
		want, wantErr = State{Bank: at, Generation: said.generation, Seq: said.seq, Data: said.data}, 0
	}
	if got := Bank(f); got != at {
		t.Fatalf("Bank of %q: %d, not %d", f.Banks, got, at)
	}
	if got, err := Read(f); got != want || err != wantErr {
		t.Fatalf("Read of %q: %v and error %d, not %v and error %d", f.Banks, got, err, want, wantErr)
	}
}

// expect tells where the flash of both banks is not as the document says.
func expect(t *testing.T, one, two side) {
	t.Helper()
	at := counts(one, two)
	said := one
	if at == 1 {
		said = two
	}
	is(t, flashOf(one, two), at, said)
}

// eachPair goes through all pairs of l and m, in both orders.
func eachPair(l, m []side, do func(one, two side)) {
	for _, one := range l {
		for _, two := range m {
			do(one, two)
			do(two, one)
		}
	}
}

// P10.1, P10.2

func TestKnownBytes(t *testing.T) {
	header := "\xa5\x01" + strings.Repeat("\x00", 16) + "\x58\x3b\x6a\xf7\x5a\x3c" // generation 0
	up := "\xa5\x02\x00\x00\x00\x00\x00\x00\x01\x02\x00\x00\x00\x00\x00\x00\x00\x07\xc7\xb6\xa0\xfb\x5a\x3c"
	snap := "\xa5\x03" + strings.Repeat("\xff", 16) + "\xd0\x26\x5e\xf0\x5a\x3c"
	blank, zeros := strings.Repeat("\xff", 24), strings.Repeat("\x00", 24)
	ofUp := side{generation: 0, seq: 258, data: 7}
	ofSnap := side{generation: 0, seq: math.MaxUint64, data: math.MaxUint64}
	for _, x := range []struct {
		one, two string
		at       int
		said     side
	}{
		{header + up, header + snap, 0, ofUp},
		{header + snap, header + up, 0, ofSnap},
		{header + up, header + up, 0, ofUp},
		{header + up, blank + snap, 0, ofUp},
		{header + zeros, header + snap, 1, ofSnap},
		{zeros + snap, header + up, 1, ofUp},
		{blank + blank, header + snap, 1, ofSnap},
		{header + snap + up + blank, zeros + up + blank, 0, ofSnap},
		{header + blank, header + blank, -1, side{}},
		{blank + snap, zeros + up, -1, side{}},
		{header, header + up, 1, ofUp},
		{up + header, snap + header, -1, side{}},
	} {
		is(t, flash.Flash{Banks: [2]string{x.one, x.two}}, x.at, x.said)
	}
}

// The chapter's example, of each size that a new flash may have.
func TestNewFlashHasNone(t *testing.T) {
	for size := -1; size <= 401; size++ {
		is(t, flash.New(size, 3), -1, side{})
	}
	is(t, flash.Flash{}, -1, side{})
}

// Banks of one slot, of a few, and of the greatest number of slots.
func TestAllPairsOfBanks(t *testing.T) {
	for _, n := range []int{1, 2, 3, mostSlots} {
		eachPair(sides(n), sides(n), func(one, two side) { expect(t, one, two) })
	}
}

func TestOneBankIsSound(t *testing.T) {
	for n := 1; n <= mostSlots; n++ {
		for at := 1; at <= n; at++ {
			s := sound(n, at, 0, 0, uint64(at))
			for _, no := range unsounds(n) {
				is(t, flashOf(s, no), 0, s)
				is(t, flashOf(no, s), 1, s)
			}
		}
	}
}

func TestNoBankIsSound(t *testing.T) {
	for n := 1; n <= mostSlots; n++ {
		eachPair(unsounds(n), unsounds(n), func(one, two side) { is(t, flashOf(one, two), -1, side{}) })
	}
}

// edges are numbers at edges, in order.
func edges() []uint64 {
	return []uint64{
		0, 1, 2, 255, 256, math.MaxInt32, math.MaxInt32 + 1, math.MaxUint32, 1 << 32, 1<<32 + 1,
		1 << 53, 1<<53 + 1, math.MaxInt64, math.MaxInt64 + 1, math.MaxUint64 - 1, math.MaxUint64,
	}
}

// The greater generation counts, whatever the numbers of the records are.
func TestTheGreaterGenerationCounts(t *testing.T) {
	for i, less := range edges() {
		for _, more := range edges()[i+1:] {
			for _, seq := range []uint64{0, 9, math.MaxUint64} {
				old, young := sound(2, 1, less, 9, 1), sound(2, 2, more, seq, 0)
				is(t, flashOf(old, young), 1, young)
				is(t, flashOf(young, old), 0, young)
			}
		}
	}
}

// Of one generation bank 0 counts, whatever the records, or the headers' Data, are.
func TestOneGenerationOfBoth(t *testing.T) {
	for _, g := range edges() {
		for _, seq := range edges() {
			one, two := sound(3, 1, g, 9, 1), sound(3, 3, g, seq, 2)
			is(t, flashOf(one, two), 0, one)
			is(t, flashOf(two, one), 0, two)
			is(t, flashOf(one, one), 0, one)
			two.s = rec(1, g, seq) + two.s[placeBytes:]
			is(t, flashOf(one, two), 0, one)
			is(t, flashOf(two, one), 0, two)
		}
	}
}

func TestAGreaterGenerationThatIsNotSound(t *testing.T) {
	for n := 1; n <= mostSlots; n++ {
		for _, g := range []uint64{0, 4, math.MaxUint64 - 1} {
			s := sound(n, n, g, 1, 1)
			for _, no := range []string{
				filled(n, rec(1, g+1, 0)),
				filled(n, rec(1, g+1, 0), unmarked(2, 9, "\xff\xff")),
				filled(n, unmarked(1, g+1, "\xff\xff"), rec(2, 9, 9)),
			} {
				is(t, flashOf(s, side{s: no}), 0, s)
				is(t, flashOf(side{s: no}, s), 1, s)
			}
		}
	}
}

func TestNumbersOfTheStateAreRead(t *testing.T) {
	for _, g := range edges() {
		for _, seq := range edges() {
			for _, data := range edges() {
				s := sound(1, 1, g, seq, data)
				is(t, flashOf(s, side{}), 0, s)
				is(t, flashOf(side{}, s), 1, s)
			}
		}
	}
}

// The greatest number stands in each of the slots, with less ones behind it, and ahead.
func TestTheLastRecordIsNotInTheLastGoodSlot(t *testing.T) {
	for n := 2; n <= mostSlots; n++ {
		for at := 1; at <= n; at++ {
			places := []string{rec(1, 1, 0)}
			for i := 1; i <= n; i++ {
				places = append(places, rec(2, uint64(i), uint64(i)))
			}
			places[at] = rec(3, 100, 77)
			s := side{filled(n, places...), true, 1, 100, 77}
			is(t, flashOf(s, sound(n, n, 0, 200, 2)), 0, s)
			is(t, flashOf(sound(n, n, 0, 200, 2), s), 1, s)
		}
	}
}

func TestErasesAndLimitDoNotCount(t *testing.T) {
	one, two := sound(1, 1, 5, 1, 1), sound(1, 1, 4, 9, 2)
	for _, erases := range [][2]int{{0, 0}, {0, 1000}, {1000, 0}, {-1, 1}, {math.MaxInt, math.MinInt}} {
		for _, limit := range []int{0, 1, 1000, -1, math.MaxInt} {
			is(t, flash.Flash{Banks: [2]string{one.s, two.s}, Erases: erases, Limit: limit}, 0, one)
			is(t, flash.Flash{Banks: [2]string{two.s, one.s}, Erases: erases, Limit: limit}, 1, one)
			is(t, flash.Flash{Erases: erases, Limit: limit}, -1, side{})
		}
	}
}

func TestOther(t *testing.T) {
	if got := Other(0); got != 1 {
		t.Errorf("Other of 0: %d", got)
	}
	for _, bank := range []int{
		1, -1, 2, -2, 3, 7, 10, 24, 255, 256, -256, 1 << 16, 1 << 31, -1 << 31, 1 << 32, 1<<32 + 1, -1 << 32,
		1 << 62, math.MaxInt - 1, math.MaxInt, math.MinInt, math.MinInt + 1,
	} {
		if got := Other(bank); got != 0 {
			t.Errorf("Other of %d: %d", bank, got)
		}
	}
}

// P10.3

// slots is how many slots the document gives a bank of size bytes.
func slots(size int) int {
	if size%placeBytes != 0 || size < 2*placeBytes || size > (mostSlots+1)*placeBytes {
		return 0
	}
	return size/placeBytes - 1
}

func TestEvenOfAllLengths(t *testing.T) {
	blank, zeros := strings.Repeat("\xff", 500), strings.Repeat("\x00", 500)
	for one := range 501 {
		for two := range 501 {
			want := slots(one) > 0 && slots(one) == slots(two)
			f := flash.Flash{Banks: [2]string{blank[:one], zeros[:two]}}
			if got := Even(f); got != want {
				t.Fatalf("Even of %d and %d bytes: %t", one, two, got)
			}
		}
	}
}

func TestEvenOfNewFlashes(t *testing.T) {
	for size := -1; size <= 401; size++ {
		if got := Even(flash.New(size, 0)); got != (slots(size) > 0) {
			t.Errorf("Even of a new flash of %d bytes: %t", size, got)
		}
	}
	if Even(flash.Flash{}) {
		t.Error("the zero flash is even")
	}
}

func TestEvenDoesNotHangOnWhatStandsThere(t *testing.T) {
	eachPair(sides(2), sides(2), func(one, two side) {
		if !Even(flashOf(one, two)) {
			t.Fatalf("%q and %q are not even", one.s, two.s)
		}
	})
	eachPair(sides(2), sides(3), func(one, two side) {
		if Even(flashOf(one, two)) {
			t.Fatalf("%q and %q are even", one.s, two.s)
		}
	})
}

// Wrong inputs

func TestTextsOfNoBank(t *testing.T) {
	eachPair(noBanks(), append(noBanks(), sides(1)...), func(one, two side) {
		expect(t, one, two)
		if Even(flashOf(one, two)) {
			t.Fatalf("%q and %q are even", one.s, two.s)
		}
	})
}

// A bank of no slots does not hinder the other one, nor do the banks have to be alike.
func TestBanksOfTwoNumbersOfSlots(t *testing.T) {
	for n := 1; n <= mostSlots; n++ {
		for m := 1; m < n; m++ {
			eachPair(sounds(n), sounds(m), func(one, two side) { expect(t, one, two) })
			eachPair(unsounds(n), sounds(m)[:3], func(one, two side) { expect(t, one, two) })
			eachPair(unsounds(m), sounds(n)[:3], func(one, two side) { expect(t, one, two) })
		}
	}
}

func TestOneBitTurnedInTheHeaderOrTheOnlyRecord(t *testing.T) {
	old, young := sound(1, 1, 4, 9, 1), sound(1, 1, 5, 10, 2)
	for bit := range 8 * len(young.s) {
		s := []byte(young.s)
		s[bit/8] ^= 1 << (bit % 8)
		no := side{s: string(s)}
		is(t, flashOf(old, no), 0, old)
		is(t, flashOf(no, old), 1, old)
		is(t, flashOf(no, no), -1, side{})
	}
}

// P10.4

// What counts stays as it is, whatever becomes of the other bank, while its generation is not greater.
func TestTheOtherBankDoesNotCount(t *testing.T) {
	for _, s := range sounds(3) {
		for _, other := range append(sides(3), noBanks()...) {
			if !other.sound || other.generation <= s.generation {
				is(t, flashOf(s, other), 0, s)
			}
			// With one generation it would be bank 0 that counts.
			if !other.sound || other.generation < s.generation {
				is(t, flashOf(other, s), 1, s)
			}
		}
	}
}

// fresh is the ops that make a bank of one slot anew, its header last, by what the document says of layer 11.
func fresh(bank int, generation, seq, data uint64) []power.Op {
	snap := record.Record{Kind: 3, Seq: seq, Data: data}
	head := record.Record{Kind: 1, Seq: generation}
	return []power.Op{
		{Kind: power.Erase, Bank: bank},
		{Kind: power.Program, Bank: bank, At: layout.At(1), Data: record.Body(snap)},
		{Kind: power.Program, Bank: bank, At: layout.Mark(1), Data: record.Mark()},
		{Kind: power.Program, Bank: bank, At: layout.At(0), Data: record.Body(head)},
		{Kind: power.Program, Bank: bank, At: layout.Mark(0), Data: record.Mark()},
	}
}

// The power goes while a bank is made anew, at each op and in many ways: till its header is whole, the other one counts.
func TestABankThatIsMadeCountsWithItsHeader(t *testing.T) {
	old := sound(1, 1, 4, 9, 1)
	young := sound(1, 1, 5, 10, 2)
	killed := side{s: "\x00\x00" + young.s[2:]}
	for at := range 2 {
		pair := [2]side{killed, killed}
		pair[1-at] = old
		f := flashOf(pair[0], pair[1])
		ops := fresh(at, 5, 10, 2)
		for cut := range ops {
			for bit := range 8 * len(old.s) {
				mask := make([]byte, len(old.s))
				mask[bit/8] = 1 << (bit % 8)
				torn, _, err := power.Play(f, ops, cut, string(mask))
				if err != api.OK {
					t.Fatalf("cut at op %d: error %d", cut, err)
				}
				is(t, torn, 1-at, old)
			}
		}
		for _, cut := range []int{-1, len(ops) - 1, len(ops)} {
			done, _, err := power.Play(f, ops, cut, "\xff\xff")
			if err != api.OK {
				t.Fatalf("cut at op %d: error %d", cut, err)
			}
			is(t, done, at, young)
		}
	}
}
