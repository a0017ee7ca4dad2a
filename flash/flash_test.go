package flash

import (
	"math"
	"math/big"
	"strings"
	"testing"

	"dogwatch/api"
)

// mixed is a text of n bytes that hangs on seed alone.
func mixed(n int, seed uint32) string {
	out := make([]byte, n)
	for i := range out {
		seed = seed*1664525 + 1013904223
		out[i] = byte(seed >> 24)
	}
	return string(out)
}

// same is n times the byte b.
func same(n int, b byte) string {
	return strings.Repeat(string([]byte{b}), n)
}

// allBytes is every byte once, in rising order.
func allBytes() string {
	out := make([]byte, 256)
	for i := range out {
		out[i] = byte(i)
	}
	return string(out)
}

// flashes are new ones, worn ones, and such as New never makes: banks of two sizes, odd ones, longer ones, and odd counts.
func flashes() []Flash {
	return []Flash{
		{},
		New(0, 5),
		New(4, 0),
		New(72, 1000),
		{Banks: [2]string{mixed(6, 1), mixed(6, 2)}, Erases: [2]int{1, 2}, Limit: 2},
		{Banks: [2]string{mixed(5, 3), mixed(8, 4)}, Erases: [2]int{7, 0}, Limit: 3},
		{Banks: [2]string{"", mixed(9, 5)}, Erases: [2]int{0, 4}, Limit: 5},
		{Banks: [2]string{mixed(3, 6), ""}, Limit: 1},
		{Banks: [2]string{mixed(24, 7), mixed(25, 8)}, Erases: [2]int{-3, math.MinInt}, Limit: -2},
		{Banks: [2]string{mixed(410, 9), same(400, 0)}, Erases: [2]int{999, 1000}, Limit: 1001},
		{Banks: [2]string{"\xc3\xa9\x00\xff", "\xff\xfe"}, Erases: [2]int{math.MaxInt, math.MaxInt - 1}, Limit: math.MaxInt},
	}
}

// noBanks are numbers that no bank has, some of which are 0 or 1 in fewer bits.
func noBanks() []int {
	return []int{math.MinInt, math.MinInt + 1, -256, -2, -1, 2, 3, 256, 257, 1 << 32, 1<<32 + 1, math.MaxInt - 1, math.MaxInt}
}

// edges are the places and lengths that matter of a bank of size bytes: about its ends, and so great that sums of two go round.
func edges(size int) []int {
	out := []int{math.MinInt, math.MinInt + 1, math.MinInt / 2, -256, -1 << 32, 1 << 32, 1 << 62, math.MaxInt - size, math.MaxInt - size + 1, math.MaxInt - 1, math.MaxInt}
	for i := -3; i <= size+3; i++ {
		// Of long banks the middle says nothing that a few places of it do not say.
		if i < 8 || i > size-4 || i%67 < 2 {
			out = append(out, i)
		}
	}
	return out
}

// readError is what P3.2 says of errors, with an exact sum.
func readError(f Flash, bank, at, n int) api.Errno {
	if bank != 0 && bank != 1 {
		return api.ErrArg
	}
	sum := new(big.Int).Add(big.NewInt(int64(at)), big.NewInt(int64(n)))
	if at < 0 || n < 0 || sum.Cmp(big.NewInt(int64(len(f.Banks[bank])))) > 0 {
		return api.ErrBounds
	}
	return api.OK
}

// programmed is what P3.3 says of Program, byte by byte.
func programmed(f Flash, bank, at int, data string) (Flash, api.Errno) {
	if err := readError(f, bank, at, len(data)); err != api.OK {
		return f, err
	}
	if at&1 == 1 || len(data)&1 == 1 {
		return f, api.ErrAlign
	}
	out := []byte(f.Banks[bank])
	for i := range len(data) {
		out[at+i] &= data[i]
	}
	f.Banks[bank] = string(out)
	return f, api.OK
}

// P3.1

func TestNew(t *testing.T) {
	for _, size := range []int{0, 1, 2, 23, 24, 48, 255, 256, 312, 399, 400} {
		for _, limit := range []int{0, 1, 2, 500, 999, 1000} {
			blank := same(size, 255)
			want := Flash{Banks: [2]string{blank, blank}, Erases: [2]int{0, 0}, Limit: limit}
			if got := New(size, limit); got != want {
				t.Errorf("New of %d and %d: %v", size, limit, got)
			}
		}
	}
}

func TestNewOfWrongSizesAndLimits(t *testing.T) {
	wrongSizes := []int{math.MinInt, -400, -2, -1, 401, 402, 1000, 1 << 32, math.MaxInt}
	wrongLimits := []int{math.MinInt, -1000, -1, 1001, 1002, 1 << 32, math.MaxInt}
	for _, size := range wrongSizes {
		for _, limit := range append([]int{0, 1, 1000}, wrongLimits...) {
			if got := New(size, limit); got != (Flash{}) {
				t.Errorf("New of %d and %d: %v", size, limit, got)
			}
		}
	}
	for _, limit := range wrongLimits {
		for _, size := range []int{0, 1, 2, 72, 400} {
			if got := New(size, limit); got != (Flash{}) {
				t.Errorf("New of %d and %d: %v", size, limit, got)
			}
		}
	}
}

func TestBlank(t *testing.T) {
	for _, n := range []int{0, 1, 2, 3, 24, 400, 500} {
		s := same(n, 255)
		if !Blank(s) {
			t.Errorf("%d times 255 are not blank", n)
		}
		for i := range n {
			for _, b := range []byte{0, 1, 127, 128, 254} {
				if Blank(s[:i] + string([]byte{b}) + s[i+1:]) {
					t.Fatalf("%d times 255, but %d at %d, are blank", n, b, i)
				}
			}
		}
	}
}

func TestBlankOfAllBytes(t *testing.T) {
	for b := range 256 {
		if Blank(same(1, byte(b))) != (b == 255) {
			t.Errorf("Blank of %d: %v", b, b != 255)
		}
	}
	if Blank("\xc3\xbf") {
		t.Error("the letter whose number is 255 is two bytes, neither of which is blank")
	}
}

// P3.2

func TestReadOfKnown(t *testing.T) {
	f := Flash{Banks: [2]string{"abcd", "\xc3\xa9\x00"}, Limit: 1}
	for _, x := range []struct {
		bank, at, n int
		s           string
		err         api.Errno
	}{
		{0, 0, 4, "abcd", api.OK},
		{0, 1, 2, "bc", api.OK},
		{0, 3, 1, "d", api.OK},
		{0, 0, 0, "", api.OK},
		{0, 4, 0, "", api.OK},
		{1, 1, 2, "\xa9\x00", api.OK},
		{1, 3, 0, "", api.OK},
		{0, 4, 1, "", api.ErrBounds},
		{0, 5, 0, "", api.ErrBounds},
		{0, 0, 5, "", api.ErrBounds},
		{1, 0, 4, "", api.ErrBounds},
		{1, 4, 0, "", api.ErrBounds},
		{0, -1, 1, "", api.ErrBounds},
		{0, -1, 0, "", api.ErrBounds},
		{0, 1, -1, "", api.ErrBounds},
		{0, 5, -1, "", api.ErrBounds},
		{0, -1, 3, "", api.ErrBounds},
		{0, 1, math.MaxInt, "", api.ErrBounds},
		{0, math.MaxInt, 1, "", api.ErrBounds},
		{0, math.MaxInt, math.MaxInt, "", api.ErrBounds},
		{0, math.MinInt, math.MinInt, "", api.ErrBounds},
		{0, math.MinInt, math.MaxInt, "", api.ErrBounds},
		{2, 0, 1, "", api.ErrArg},
		{-1, 0, 1, "", api.ErrArg},
		{2, 9, 9, "", api.ErrArg},
		{-1, -1, -1, "", api.ErrArg},
	} {
		if s, err := Read(f, x.bank, x.at, x.n); s != x.s || err != x.err {
			t.Errorf("Read of %d, %d and %d: %q, %d", x.bank, x.at, x.n, s, err)
		}
	}
}

func TestReadOfAllParts(t *testing.T) {
	for _, f := range flashes() {
		for bank, s := range f.Banks {
			for _, at := range edges(len(s)) {
				for _, n := range edges(len(s)) {
					want, wantErr := "", readError(f, bank, at, n)
					if wantErr == api.OK {
						want = s[at:][:n]
					}
					if got, err := Read(f, bank, at, n); got != want || err != wantErr {
						t.Fatalf("Read of %d, %d and %d: %q, %d, not %q, %d", bank, at, n, got, err, want, wantErr)
					}
				}
			}
		}
	}
}

func TestReadOfNoBank(t *testing.T) {
	for _, f := range flashes() {
		for _, bank := range noBanks() {
			for _, at := range []int{math.MinInt, -1, 0, 1, math.MaxInt} {
				for _, n := range []int{math.MinInt, -1, 0, 1, math.MaxInt} {
					if s, err := Read(f, bank, at, n); s != "" || err != api.ErrArg {
						t.Errorf("Read of %d, %d and %d: %q, %d", bank, at, n, s, err)
					}
				}
			}
		}
	}
}

// P3.3

func TestProgramOfKnown(t *testing.T) {
	f := Flash{Banks: [2]string{"\xf0\xf0\xff\xff", "\xff\x55\xf0"}, Erases: [2]int{1, 2}, Limit: 3}
	for _, x := range []struct {
		bank, at int
		data     string
		comes    string // what becomes of the bank, if it does not go wrong
		err      api.Errno
	}{
		{0, 0, "\x0f\x0f", "\x00\x00\xff\xff", api.OK},
		{0, 2, "\x0f\x00", "\xf0\xf0\x0f\x00", api.OK},
		{0, 0, "\xff\xff\xff\xff", "\xf0\xf0\xff\xff", api.OK},
		{0, 0, "\x90\x81\xc3\xa9", "\x90\x80\xc3\xa9", api.OK},
		{0, 0, "", "\xf0\xf0\xff\xff", api.OK},
		{0, 4, "", "\xf0\xf0\xff\xff", api.OK},
		{1, 0, "\x0f\xaa", "\x0f\x00\xf0", api.OK},
		{1, 2, "", "\xff\x55\xf0", api.OK},
		{0, 1, "\x00\x00", "", api.ErrAlign},
		{0, 0, "\x00", "", api.ErrAlign},
		{0, 1, "\x00", "", api.ErrAlign},
		{0, 3, "", "", api.ErrAlign},
		{1, 2, "\x00", "", api.ErrAlign},
		{1, 3, "", "", api.ErrAlign},
		{1, 0, "\x00\x00\x00", "", api.ErrAlign},
		{0, 4, "\x00\x00", "", api.ErrBounds},
		{0, 5, "", "", api.ErrBounds},
		{0, 4, "\x00", "", api.ErrBounds},
		{0, 3, "\x00\x00", "", api.ErrBounds},
		{0, 0, "\x00\x00\x00\x00\x00", "", api.ErrBounds},
		{1, 2, "\x00\x00", "", api.ErrBounds},
		{0, -1, "\x00", "", api.ErrBounds},
		{0, -2, "\x00\x00", "", api.ErrBounds},
		{0, -2, "", "", api.ErrBounds},
		{0, math.MinInt, "\x00\x00", "", api.ErrBounds},
		{0, math.MaxInt, "\x00", "", api.ErrBounds},
		{0, math.MaxInt - 1, "\x00\x00", "", api.ErrBounds},
		{2, 0, "\x00\x00", "", api.ErrArg},
		{-1, 1, "\x00", "", api.ErrArg},
		{3, -1, "\x00", "", api.ErrArg},
		{-2, 99, "", "", api.ErrArg},
	} {
		want := f
		if x.err == api.OK {
			want.Banks[x.bank] = x.comes
		}
		if got, err := Program(f, x.bank, x.at, x.data); got != want || err != x.err {
			t.Errorf("Program of %d, %d and %q: %q, %d", x.bank, x.at, x.data, got.Banks, err)
		}
	}
}

func TestProgramOfAllBytes(t *testing.T) {
	for b := range 256 {
		f := New(256, 1)
		f.Banks[1] = same(256, byte(b))
		got, err := Program(f, 1, 0, allBytes())
		if err != api.OK || got.Banks[0] != f.Banks[0] {
			t.Fatalf("Program of %d: %v, %d", b, got, err)
		}
		for i := range 256 {
			if got.Banks[1][i] != byte(b&i) {
				t.Fatalf("%d, programmed with %d: %d", b, i, got.Banks[1][i])
			}
		}
	}
}

func TestProgramOfAllPlaces(t *testing.T) {
	for _, f := range flashes() {
		for bank, s := range f.Banks {
			for _, at := range edges(len(s)) {
				for _, n := range edges(len(s)) {
					if n < 0 || n > len(s)+4 {
						continue
					}
					data := mixed(n, uint32(n+at))
					want, wantErr := programmed(f, bank, at, data)
					if got, err := Program(f, bank, at, data); got != want || err != wantErr {
						t.Fatalf("Program of %d, %d and %q: %q, %d, not %q, %d", bank, at, data, got.Banks, err, want.Banks, wantErr)
					}
				}
			}
		}
	}
}

func TestProgramOfNoBank(t *testing.T) {
	for _, f := range flashes() {
		for _, bank := range noBanks() {
			for _, at := range []int{math.MinInt, -1, 0, 1, 2, math.MaxInt} {
				for _, data := range []string{"", "\x00", "\x00\x00", same(500, 0)} {
					if got, err := Program(f, bank, at, data); got != f || err != api.ErrArg {
						t.Errorf("Program of %d and %d: %v, %d", bank, at, got, err)
					}
				}
			}
		}
	}
}

func TestEraseUpToLimit(t *testing.T) {
	for _, limit := range []int{0, 1, 2, 3, 999, 1000} {
		for bank := range 2 {
			f := New(6, limit)
			other := f.Banks[1-bank]
			for n := range limit {
				f, _ = Program(f, bank, 2, "\x12\x34")
				got, err := Erase(f, bank)
				if err != api.OK || got.Banks[bank] != same(6, 255) || got.Erases[bank] != n+1 {
					t.Fatalf("erase %d of %d: %v, %d", n+1, limit, got, err)
				}
				if got.Banks[1-bank] != other || got.Erases[1-bank] != 0 || got.Limit != limit {
					t.Fatalf("erase %d of %d changed more: %v", n+1, limit, got)
				}
				f = got
			}
			f, _ = Program(f, bank, 2, "\x12\x34")
			if got, err := Erase(f, bank); got != f || err != api.ErrWorn {
				t.Errorf("one erase behind %d: %v, %d", limit, got, err)
			}
		}
	}
}

func TestEraseOfOneBankDoesNotWearTheOther(t *testing.T) {
	f := New(4, 1)
	f, _ = Erase(f, 0)
	f, err := Erase(f, 1)
	if err != api.OK || f.Erases != [2]int{1, 1} {
		t.Errorf("the other bank: %v, %d", f, err)
	}
	for bank := range 2 {
		if got, err := Erase(f, bank); got != f || err != api.ErrWorn {
			t.Errorf("bank %d, once more: %v, %d", bank, got, err)
		}
	}
}

// Counts and limits that New does not make hold as they stand, and none of them goes round.
func TestEraseOfAllFlashes(t *testing.T) {
	for _, f := range flashes() {
		for bank, s := range f.Banks {
			want, wantErr := f, api.ErrWorn
			if f.Erases[bank] < f.Limit {
				want.Banks[bank], wantErr = same(len(s), 255), api.OK
				want.Erases[bank]++
			}
			if got, err := Erase(f, bank); got != want || err != wantErr {
				t.Errorf("Erase of %v, %d: %v, %d", f, bank, got, err)
			}
		}
	}
}

func TestEraseOfNoBank(t *testing.T) {
	for _, f := range flashes() {
		for _, bank := range noBanks() {
			if got, err := Erase(f, bank); got != f || err != api.ErrArg {
				t.Errorf("Erase of %v, %d: %v, %d", f, bank, got, err)
			}
		}
	}
}

// P3.4

// setBits counts the bits that are 0 in old, and 1 in got.
func setBits(old, got string) int {
	n := 0
	for i := range 8 * len(old) {
		if old[i/8]>>(i%8)&1 == 0 && got[i/8]>>(i%8)&1 == 1 {
			n++
		}
	}
	return n
}

func TestOnlyAnEraseSetsBits(t *testing.T) {
	for _, f := range flashes() {
		for step := range 200 {
			dice := mixed(5, uint32(step))
			bank, at := int(dice[0]%4)-1, int(dice[1]%32)-2
			data := mixed(int(dice[2]%16), uint32(step+1))
			after, err := Program(f, bank, at, data)
			if err != api.OK && after != f {
				t.Fatalf("Program went wrong, and changed something: %v", after)
			}
			for i := range f.Banks {
				if len(after.Banks[i]) != len(f.Banks[i]) || setBits(f.Banks[i], after.Banks[i]) != 0 {
					t.Fatalf("Program set a bit: %q, of %q", after.Banks[i], f.Banks[i])
				}
			}
			f = after
			if dice[3]%16 == 0 {
				f, _ = Erase(f, bank)
			}
		}
	}
}

func TestNothingElseChanges(t *testing.T) {
	for _, f := range flashes() {
		for bank, s := range f.Banks {
			for at := 0; at+4 <= len(s); at += 2 {
				was := f
				after, err := Program(f, bank, at, mixed(4, uint32(at)))
				if err != api.OK || f != was {
					t.Fatalf("Program at %d: %d", at, err)
				}
				if after.Banks[bank][:at] != s[:at] || after.Banks[bank][at+4:] != s[at+4:] {
					t.Fatalf("Program at %d changed other bytes: %q, of %q", at, after.Banks[bank], s)
				}
				after.Banks[bank] = s
				if after != f {
					t.Fatalf("Program at %d changed more than its bank: %v, of %v", at, after, f)
				}
			}
			after, err := Erase(f, bank)
			if err == api.OK && after.Erases[bank] != f.Erases[bank]+1 {
				t.Fatalf("Erase of %v: %v", f, after)
			}
			after.Banks[bank], after.Erases[bank] = s, f.Erases[bank]
			if after != f {
				t.Fatalf("Erase of %d changed more than its bank: %v, of %v", bank, after, f)
			}
		}
	}
}

func TestWhatIsProgrammedOnBlankIsRead(t *testing.T) {
	f := New(400, 1)
	for at := 0; at < 400; at += 20 {
		data := mixed(20, uint32(at))
		f, _ = Program(f, 1, at, data)
		if got, err := Read(f, 1, at, 20); got != data || err != api.OK {
			t.Fatalf("programmed at %d: %q; read: %q, %d", at, data, got, err)
		}
	}
	if !Blank(f.Banks[0]) || Blank(f.Banks[1]) {
		t.Errorf("banks: %q", f.Banks)
	}
	f, _ = Erase(f, 1)
	if got, err := Read(f, 1, 0, 400); !Blank(got) || len(got) != 400 || err != api.OK {
		t.Errorf("behind an erase: %q, %d", got, err)
	}
}
