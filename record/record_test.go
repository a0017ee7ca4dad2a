package record

import (
	"encoding/binary"
	"hash/crc32"
	"math"
	"strings"
	"testing"

	"dogwatch/api"
	"dogwatch/clear"
)

// The numbers of the document, by themselves.
const (
	recordBytes = 24
	bodyBytes   = 22
	summedBytes = 18
)

// mixed is a text of n bytes that hangs on seed alone.
func mixed(n int, seed uint32) string {
	out := make([]byte, n)
	for i := range out {
		seed = seed*1664525 + 1013904223
		out[i] = byte(seed >> 24)
	}
	return string(out)
}

// blanks is n blank bytes.
func blanks(n int) string {
	return strings.Repeat("\xff", n)
}

// numbers are what Seq and Data are tried with: 0, all bits, the edges of bytes, single bits, and mixed ones.
func numbers() []uint64 {
	out := []uint64{0, 7, 255, 256, 258, 0x0102030405060708, 0xF1F2F3F4F5F6F7F8, math.MaxInt64, math.MaxUint64 - 1, math.MaxUint64}
	for k := range 64 {
		out = append(out, 1<<k)
	}
	for seed := range uint32(4) {
		out = append(out, binary.BigEndian.Uint64([]byte(mixed(8, seed))))
	}
	return out
}

// records are of each known kind, with all numbers as Seq, and as Data.
func records() []Record {
	var out []Record
	all := numbers()
	for kind := 1; kind <= 3; kind++ {
		for i, n := range all {
			out = append(out, Record{kind, n, 0}, Record{kind, 0, n}, Record{kind, n, n}, Record{kind, n, all[len(all)-1-i]})
		}
	}
	return out
}

// some are a few records, of each known kind, for what is tried with many texts of each.
func some() []Record {
	return []Record{{1, 0, 0}, {2, 258, 7}, {3, math.MaxUint64, math.MaxUint64}, {1, math.MaxUint64, 0}, {2, 0, math.MaxUint64}, {3, 0x0102030405060708, 0xF1F2F3F4F5F6F7F8}}
}

// wrongKinds are numbers that are no kinds: below 1 and above 3, beyond a byte, the least and the greatest whole number.
func wrongKinds() []int {
	return []int{
		-3, -2, -1, 0, 4, 5, 127, 128, 165, 254, 255, 256, 257, 258, 259, 260, 511, 512, 515, -253, -254, -255, -256,
		1 << 16, 1<<16 + 2, 1 << 32, 1<<32 + 3, 1 << 62, 1<<62 + 1, math.MinInt32, math.MaxInt32,
		math.MinInt, math.MinInt + 1, math.MinInt + 2, math.MinInt + 3, math.MinInt + 4, math.MaxInt, math.MaxInt - 1, math.MaxInt - 252,
	}
}

// summed is what P7.1 says of the first 18 bytes.
func summed(r Record) string {
	b := []byte{165, byte(r.Kind)}
	b = binary.BigEndian.AppendUint64(b, r.Seq)
	b = binary.BigEndian.AppendUint64(b, r.Data)
	return string(b)
}

// withSum is s, with the sum of all of it behind it, as P7.1 says.
func withSum(s string) string {
	return string(binary.LittleEndian.AppendUint32([]byte(s), crc32.ChecksumIEEE([]byte(s))))
}

// decoded is what P7.2 says of Decode.
func decoded(s string) (Record, api.Errno) {
	if len(s) != recordBytes {
		return Record{}, 1
	}
	if s == blanks(recordBytes) {
		return Record{}, 5
	}
	b := []byte(s)
	if b[0] != 165 {
		return Record{}, 6
	}
	if withSum(s[:summedBytes]) != s[:bodyBytes] {
		return Record{}, 7
	}
	if b[1] != 1 && b[1] != 2 && b[1] != 3 {
		return Record{}, 8
	}
	if b[22] != 90 || b[23] != 60 {
		return Record{}, 9
	}
	return Record{int(b[1]), binary.BigEndian.Uint64(b[2:10]), binary.BigEndian.Uint64(b[10:18])}, 0
}

// expect tells where Decode of s, or Good, is not what is wanted.
func expect(t *testing.T, s string, want Record, err api.Errno) {
	t.Helper()
	if got, e := Decode(s); got != want || e != err {
		t.Fatalf("Decode of %q: %v and error %d, not %v and %d", s, got, e, want, err)
	}
	if Good(s) != (err == 0) {
		t.Fatalf("Good of %q: %v", s, Good(s))
	}
}

// changed is s, with the byte at at turned by by.
func changed(s string, at int, by byte) string {
	out := []byte(s)
	out[at] ^= by
	return string(out)
}

// P7.1

func TestKinds(t *testing.T) {
	if Header != 1 || Update != 2 || Snapshot != 3 {
		t.Errorf("the kinds are %d, %d and %d", Header, Update, Snapshot)
	}
}

func TestBodyOfKnown(t *testing.T) {
	for _, x := range []struct {
		r    Record
		want string
	}{
		{Record{2, 258, 7}, "\xa5\x02\x00\x00\x00\x00\x00\x00\x01\x02\x00\x00\x00\x00\x00\x00\x00\x07\xc7\xb6\xa0\xfb"},
		{Record{1, 0, 0}, "\xa5\x01\x00\x00\x00\x00\x00\x00\x00\x00\x00\x00\x00\x00\x00\x00\x00\x00\x58\x3b\x6a\xf7"},
		{Record{1, 1, 0}, "\xa5\x01\x00\x00\x00\x00\x00\x00\x00\x01\x00\x00\x00\x00\x00\x00\x00\x00\x1b\x2f\x11\xe0"},
		{Record{3, math.MaxUint64, math.MaxUint64}, "\xa5\x03" + blanks(16) + "\xd0\x26\x5e\xf0"},
		{Record{2, 0x0102030405060708, 0xF1F2F3F4F5F6F7F8}, "\xa5\x02\x01\x02\x03\x04\x05\x06\x07\x08\xf1\xf2\xf3\xf4\xf5\xf6\xf7\xf8\x0e\x4d\x2c\x31"},
		{Record{}, "\xa5\x00" + strings.Repeat("\x00", 16) + "\x1b\xf0\xcc\x70"},
		{Record{Kind: 255}, "\xa5\xff" + strings.Repeat("\x00", 16) + "\x55\xc6\x76\x68"},
		{Record{Kind: 256}, "\xa5\x00" + strings.Repeat("\x00", 16) + "\x1b\xf0\xcc\x70"},
		{Record{Kind: -1}, "\xa5\xff" + strings.Repeat("\x00", 16) + "\x55\xc6\x76\x68"},
		{Record{Kind: 257}, "\xa5\x01" + strings.Repeat("\x00", 16) + "\x58\x3b\x6a\xf7"},
	} {
		if got := Body(x.r); got != x.want {
			t.Errorf("Body of %v: %q, not %q", x.r, got, x.want)
		}
		if got := Encode(x.r); got != x.want+"\x5a\x3c" {
			t.Errorf("Encode of %v: %q, not %q and the mark", x.r, got, x.want)
		}
	}
}

func TestMarkIsTwoBytes(t *testing.T) {
	if got := []byte(Mark()); len(got) != 2 || got[0] != 90 || got[1] != 60 {
		t.Errorf("Mark: %v", got)
	}
}

// encodes tells where Body or Encode of r is not what P7.1 says.
func encodes(t *testing.T, r Record) {
	t.Helper()
	want := withSum(summed(r))
	if got := Body(r); got != want || len(got) != bodyBytes {
		t.Fatalf("Body of %v: %q, not %q", r, got, want)
	}
	if got := Encode(r); got != want+string([]byte{90, 60}) || len(got) != recordBytes {
		t.Fatalf("Encode of %v: %q, not %q and the mark", r, got, want)
	}
}

func TestBodyOfAllRecords(t *testing.T) {
	for _, r := range records() {
		encodes(t, r)
	}
}

func TestBodyOfAllKinds(t *testing.T) {
	for _, r := range some() {
		for kind := -300; kind <= 600; kind++ {
			encodes(t, Record{kind, r.Seq, r.Data})
		}
		for _, kind := range wrongKinds() {
			encodes(t, Record{kind, r.Seq, r.Data})
		}
	}
}

// P7.2

func TestDecodeOfKnown(t *testing.T) {
	zeros := strings.Repeat("\x00", 16)
	for _, x := range []struct {
		s    string
		want Record
		err  api.Errno
	}{
		{"\xa5\x02\x00\x00\x00\x00\x00\x00\x01\x02\x00\x00\x00\x00\x00\x00\x00\x07\xc7\xb6\xa0\xfb\x5a\x3c", Record{2, 258, 7}, 0},
		{"\xa5\x01" + zeros + "\x58\x3b\x6a\xf7\x5a\x3c", Record{Kind: 1}, 0},
		{"\xa5\x03" + blanks(16) + "\xd0\x26\x5e\xf0\x5a\x3c", Record{3, math.MaxUint64, math.MaxUint64}, 0},
		{"\xa5\x02\x01\x02\x03\x04\x05\x06\x07\x08\xf1\xf2\xf3\xf4\xf5\xf6\xf7\xf8\x0e\x4d\x2c\x31\x5a\x3c", Record{2, 0x0102030405060708, 0xF1F2F3F4F5F6F7F8}, 0},
		{"", Record{}, 1},
		{"\xa5", Record{}, 1},
		{blanks(24), Record{}, 5},
		{strings.Repeat("\x00", 24), Record{}, 6},
		{"\xfe" + blanks(23), Record{}, 6},
		{blanks(23) + "\xfe", Record{}, 6},
		{blanks(22) + "\x5a\x3c", Record{}, 6},
		{"\x5a\x02\x00\x00\x00\x00\x00\x00\x01\x02\x00\x00\x00\x00\x00\x00\x00\x07\xc7\xb6\xa0\xfb\x5a\x3c", Record{}, 6},
		{"\xa5" + blanks(23), Record{}, 7},
		{"\xa5\x02\x00\x00\x00\x00\x00\x00\x01\x02\x00\x00\x00\x00\x00\x00\x00\x07\xfb\xa0\xb6\xc7\x5a\x3c", Record{}, 7},
		{"\xa5\x00" + zeros + "\x1b\xf0\xcc\x70\x5a\x3c", Record{}, 8},
		{"\xa5\xff" + zeros + "\x55\xc6\x76\x68\x5a\x3c", Record{}, 8},
		{"\xa5\xff" + zeros + "\x55\xc6\x76\x68\xff\xff", Record{}, 8},
		{"\xa5\x01" + zeros + "\x58\x3b\x6a\xf7\xff\xff", Record{}, 9},
		{"\xa5\x01" + zeros + "\x58\x3b\x6a\xf7\x00\x00", Record{}, 9},
		{"\xa5\x01" + zeros + "\x58\x3b\x6a\xf7\x3c\x5a", Record{}, 9},
		{"\xa5\x01" + zeros + "\x58\x3b\x6a\xf7\x5a\xff", Record{}, 9},
		{"\xa5\x01" + zeros + "\x58\x3b\x6a\xf7\xff\x3c", Record{}, 9},
	} {
		expect(t, x.s, x.want, x.err)
	}
}

func TestDecodeOfWrongLengths(t *testing.T) {
	good := Encode(Record{2, 258, 7})
	many := strings.Repeat(good, 5)
	for n := range 100 {
		if n == recordBytes {
			continue
		}
		for _, s := range []string{blanks(n), strings.Repeat("\x00", n), mixed(n, uint32(n)), many[:n], many[len(many)-n:]} {
			expect(t, s, Record{}, api.ErrArg)
		}
	}
	for _, s := range []string{good[:23], good[1:], good + "\xff", "\xff" + good, good + "\x00", good + good, Body(Record{2, 258, 7}), Mark(), mixed(500, 1), blanks(500), "é" + good} {
		expect(t, s, Record{}, api.ErrArg)
	}
}

func TestDecodeOfAllKinds(t *testing.T) {
	for _, r := range some() {
		for kind := range 256 {
			r.Kind = kind
			s := withSum(summed(r))
			if kind == 1 || kind == 2 || kind == 3 {
				expect(t, s+"\x5a\x3c", r, api.OK)
				expect(t, s+"\xff\xff", Record{}, api.ErrCommit)
				continue
			}
			expect(t, s+"\x5a\x3c", Record{}, api.ErrKind)
			expect(t, s+"\xff\xff", Record{}, api.ErrKind)
		}
	}
}

// Each byte of a good record is turned by all that turns it: the error is told by the check that comes first.
func TestDecodeOfEachByteTurned(t *testing.T) {
	for _, r := range some() {
		good := Encode(r)
		for at := range recordBytes {
			want := api.ErrSum
			switch {
			case at == 0:
				want = api.ErrMagic
			case at >= bodyBytes:
				want = api.ErrCommit
			}
			for by := 1; by < 256; by++ {
				expect(t, changed(good, at, byte(by)), Record{}, want)
			}
		}
	}
}

// Some of what may be wrong is wrong, in all ways: the answer is the error that is named first.
func TestDecodeOfSeveralErrors(t *testing.T) {
	for wrong := range 16 {
		r := Record{3, 258, 7}
		want := api.OK
		if wrong&8 != 0 {
			want = api.ErrCommit
		}
		if wrong&4 != 0 {
			r.Kind, want = 4, api.ErrKind
		}
		head := summed(r)
		if wrong&1 != 0 {
			head = changed(head, 0, 1)
		}
		s := withSum(head) + "\x5a\x3c"
		if wrong&2 != 0 {
			s, want = changed(s, 20, 16), api.ErrSum
		}
		if wrong&1 != 0 {
			want = api.ErrMagic
		}
		if wrong&8 != 0 {
			s = changed(s, 23, 2)
		}
		if want != api.OK {
			r = Record{}
		}
		expect(t, s, r, want)
	}
}

func TestDecodeOfBlanksButOneByte(t *testing.T) {
	for at := range recordBytes {
		for by := 1; by < 256; by++ {
			want := api.ErrMagic
			if at == 0 && 255^by == 165 {
				want = api.ErrSum
			}
			expect(t, changed(blanks(recordBytes), at, byte(by)), Record{}, want)
		}
	}
}

func TestDecodeOfMixedTexts(t *testing.T) {
	for seed := range uint32(2000) {
		s := mixed(recordBytes, seed)
		for _, x := range []string{s, "\xa5" + s[1:], withSum("\xa5"+s[1:summedBytes]) + "\x5a\x3c", withSum("\xa5\x02"+s[2:summedBytes]) + s[22:], withSum("\xa5\x03"+s[2:summedBytes]) + "\x5a\x3c"} {
			want, err := decoded(x)
			expect(t, x, want, err)
		}
	}
}

func TestDecodeHangsOnItsTextAlone(t *testing.T) {
	good, torn := Encode(Record{2, 258, 7}), Body(Record{3, 9, 9})+"\xff\xff"
	for range 3 {
		expect(t, good, Record{2, 258, 7}, api.OK)
		expect(t, torn, Record{}, api.ErrCommit)
		expect(t, "", Record{}, api.ErrArg)
	}
}

// P7.3

func TestRecordsAreDecodedBack(t *testing.T) {
	for _, r := range records() {
		expect(t, Encode(r), r, api.OK)
	}
}

func TestKindsAreDecodedBackByTheirLowestByte(t *testing.T) {
	for _, kind := range wrongKinds() {
		for _, r := range some() {
			r.Kind = kind
			want, err := Record{kind & 255, r.Seq, r.Data}, api.OK
			if kind&255 < 1 || kind&255 > 3 {
				want, err = Record{}, api.ErrKind
			}
			expect(t, Encode(r), want, err)
		}
	}
}

func TestNoTwoRecordsAreEncodedAlike(t *testing.T) {
	seen := map[string]Record{}
	for _, r := range records() {
		s := Encode(r)
		if other, ok := seen[s]; ok && other != r {
			t.Errorf("%v and %v are both %q", r, other, s)
		}
		seen[s] = r
	}
}

// masks are such that tear a text of n bytes anywhere: behind each bit, within one byte alone, all but one bit, and mixed ones.
func masks(n int) []string {
	var out []string
	for at := range n {
		for k := range 8 {
			out = append(out, blanks(at)+string([]byte{byte(1<<k - 1)}), blanks(at)+string([]byte{byte(255 << k)}), changed(blanks(n), at, 1<<k))
		}
		for b := range 256 {
			out = append(out, strings.Repeat("\x00", at)+string([]byte{byte(b)}))
		}
	}
	for seed := range uint32(500) {
		out = append(out, mixed(n, seed))
	}
	return append(out, "", blanks(n), blanks(n+2))
}

// notGood tells where s is good, or Decode tells a record of it.
func notGood(t *testing.T, s string) {
	t.Helper()
	if r, err := Decode(s); Good(s) || err == api.OK || r != (Record{}) {
		t.Fatalf("%q is good, as %v, and has no mark", s, r)
	}
}

func TestTornBodiesWithNoMark(t *testing.T) {
	for _, r := range some() {
		for _, mask := range masks(bodyBytes) {
			s := clear.Torn(blanks(recordBytes), Body(r), mask)
			want, err := decoded(s)
			expect(t, s, want, err)
			notGood(t, s)
		}
		expect(t, clear.Torn(blanks(recordBytes), Body(r), ""), Record{}, api.ErrBlank)
		expect(t, clear.Torn(blanks(recordBytes), Body(r), blanks(bodyBytes)), Record{}, api.ErrCommit)
	}
}

// A body that is torn is not good behind any other mark, either, as far as the last two bytes are not the mark.
func TestTornBodiesWithTornMarks(t *testing.T) {
	for _, r := range some() {
		for i, mask := range masks(bodyBytes) {
			marks := mixed(2, uint32(i))
			if marks == Mark() {
				continue
			}
			notGood(t, clear.Torn(blanks(bodyBytes), Body(r), mask)+marks)
		}
	}
}

func TestTornMarksBehindWholeBodies(t *testing.T) {
	for _, r := range some() {
		s := Body(r) + "\xff\xff"
		whole := 0
		for m := range 1 << 16 {
			mask := strings.Repeat("\x00", bodyBytes) + string([]byte{byte(m >> 8), byte(m)})
			torn := clear.Torn(s, blanks(bodyBytes)+Mark(), mask)
			if torn[bodyBytes:] == "\x5a\x3c" {
				whole++
				expect(t, torn, r, api.OK)
				continue
			}
			expect(t, torn, Record{}, api.ErrCommit)
		}
		// The mark has eight bits that are cleared; the other eight of a mask change nothing.
		if whole != 1<<8 {
			t.Fatalf("%d masks leave all of the mark", whole)
		}
	}
}

func TestAllMarksBehindWholeBodies(t *testing.T) {
	for _, r := range some() {
		for m := range 1 << 16 {
			s := Body(r) + string([]byte{byte(m >> 8), byte(m)})
			if m == 90<<8|60 {
				expect(t, s, r, api.OK)
				continue
			}
			expect(t, s, Record{}, api.ErrCommit)
		}
	}
}

// What is programmed over a record that was committed only clears bits: a mark that is killed stays so.
func TestKilledMarks(t *testing.T) {
	for _, r := range some() {
		killed := clear.And(Encode(r), blanks(bodyBytes)+"\x00\x00")
		expect(t, killed, Record{}, api.ErrCommit)
		expect(t, clear.And(killed, blanks(bodyBytes)+Mark()), Record{}, api.ErrCommit)
		expect(t, clear.And(Encode(r), blanks(bodyBytes)+Mark()), r, api.OK)
		for m := range 1 << 16 {
			mask := strings.Repeat("\x00", bodyBytes) + string([]byte{byte(m >> 8), byte(m)})
			s := clear.Torn(Encode(r), blanks(bodyBytes)+"\x00\x00", mask)
			if s == Encode(r) {
				expect(t, s, r, api.OK)
				continue
			}
			expect(t, s, Record{}, api.ErrCommit)
		}
	}
}
