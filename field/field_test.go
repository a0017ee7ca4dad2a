package field

import (
	"math"
	"math/big"
	"strings"
	"testing"
)

// mixed is a text of n bytes that hangs on seed alone.
func mixed(n int, seed uint32) string {
	out := make([]byte, n)
	for i := range out {
		seed = seed*1664525 + 1013904223
		out[i] = byte(seed >> 24)
	}
	return string(out)
}

// texts are of no bytes, of one up to somewhat more than 8, and long ones, up to the bound of texts and somewhat behind it.
func texts() []string {
	out := []string{"", "\x00", "\x01", "\x7f", "\x80", "\xff", "é\x00\xff", strings.Repeat("\x00", 9), strings.Repeat("\xff", 9)}
	for n := 1; n <= 17; n++ {
		out = append(out, mixed(n, uint32(n)), strings.Repeat("\xff", n), "\x01"+strings.Repeat("\x00", n), "\x80"+strings.Repeat("\x00", n))
	}
	for _, n := range []int{24, 255, 256, 257, 500, 510} {
		out = append(out, mixed(n, uint32(n)))
	}
	return out
}

// numbers are those at the edges of every width, those of one bit, and mixed ones.
func numbers() []uint64 {
	out := []uint64{0, 5, 258, 0x0102030405060708, 0xF1F2F3F4F5F6F7F8, 0x8080808080808080, 0x7F7F7F7F7F7F7F7F, math.MaxUint64 - 1, math.MaxUint64}
	for k := range 64 {
		bit := uint64(1) << k
		out = append(out, bit, bit-1, bit+1, -bit, -bit-1, -bit+1)
	}
	for seed := range uint32(20) {
		var n uint64
		for _, b := range []byte(mixed(8, seed)) {
			n = n*256 + uint64(b)
		}
		out = append(out, n)
	}
	return out
}

// widths are those from somewhat below 1 to somewhat above 8, the least and the greatest whole numbers, and such as come to right widths in fewer bits, or times 8.
func widths() []int {
	out := []int{math.MinInt, math.MinInt + 1, math.MinInt32, math.MaxInt32, math.MaxInt - 1, math.MaxInt, -64, 64, -256, 256}
	for w := -9; w <= 17; w++ {
		out = append(out, w)
	}
	for w := range 9 {
		out = append(out, 256+w, -256+w, 1<<16+w, 1<<32+w, -1<<32+w, 1<<60+w, 1<<61+w, -1<<61+w, 1<<62+w, math.MinInt+w)
	}
	return out
}

// counted is what P6.1 says of a width: how many bytes it stands for.
func counted(width int) int {
	switch {
	case width < 1:
		return 0
	case width > 8:
		return 8
	}
	return width
}

// power is 256 as often times itself as width says, exactly.
func power(width int) *big.Int {
	return new(big.Int).Exp(big.NewInt(256), big.NewInt(int64(width)), nil)
}

// rest is what is left of n by 256 as often times itself as width says.
func rest(n *big.Int, width int) *big.Int {
	return new(big.Int).Mod(n, power(width))
}

// put is what P6.1 says of Put: digits of n by 256, from the least one on, laid one ahead of the other.
func put(n uint64, width int) string {
	out := ""
	for range counted(width) {
		out = string([]byte{byte(n % 256)}) + out
		n /= 256
	}
	return out
}

// get is what P6.1 says of Get: the exact number, of which the last 8 bytes count.
func get(s string) uint64 {
	return rest(new(big.Int).SetBytes([]byte(s)), 8).Uint64()
}

// signed is what P6.2 says of Signed, by exact numbers: what the bytes say, less their whole range, if it is in the upper half of it.
func signed(n uint64, width int) int {
	width = counted(width)
	if width == 0 {
		return 0
	}
	whole, said := power(width), rest(new(big.Int).SetUint64(n), width)
	if new(big.Int).Lsh(said, 1).Cmp(whole) >= 0 {
		said.Sub(said, whole)
	}
	return int(said.Int64())
}

// wide is what P6.2 says of Wide, by exact numbers: whether n is in the range of the width.
func wide(n, width int) bool {
	width = counted(width)
	if width == 0 {
		return n == 0
	}
	half := new(big.Int).Rsh(power(width), 1)
	exact := big.NewInt(int64(n))
	return exact.Cmp(new(big.Int).Neg(half)) >= 0 && exact.Cmp(half) < 0
}

// P6.1

func TestPutOfKnown(t *testing.T) {
	for _, x := range []struct {
		n     uint64
		width int
		want  string
	}{
		{258, 3, "\x00\x01\x02"},
		{258, 2, "\x01\x02"},
		{258, 1, "\x02"},
		{258, 0, ""},
		{258, -1, ""},
		{258, math.MinInt, ""},
		{0, 0, ""},
		{0, 1, "\x00"},
		{255, 1, "\xff"},
		{256, 1, "\x00"},
		{0, 8, "\x00\x00\x00\x00\x00\x00\x00\x00"},
		{0x0102030405060708, 7, "\x02\x03\x04\x05\x06\x07\x08"},
		{0x0102030405060708, 8, "\x01\x02\x03\x04\x05\x06\x07\x08"},
		{0x0102030405060708, 9, "\x01\x02\x03\x04\x05\x06\x07\x08"},
		{0x0102030405060708, math.MaxInt, "\x01\x02\x03\x04\x05\x06\x07\x08"},
		{math.MaxUint64, 8, "\xff\xff\xff\xff\xff\xff\xff\xff"},
		{1 << 63, 8, "\x80\x00\x00\x00\x00\x00\x00\x00"},
		{1 << 63, 7, "\x00\x00\x00\x00\x00\x00\x00"},
	} {
		if got := Put(x.n, x.width); got != x.want {
			t.Errorf("Put of %d, %d: %q, not %q", x.n, x.width, got, x.want)
		}
	}
}

func TestPutOfAllWidths(t *testing.T) {
	for _, n := range numbers() {
		for _, width := range widths() {
			if got := Put(n, width); got != put(n, width) {
				t.Errorf("Put of %d, %d: %q", n, width, got)
			}
		}
	}
}

func TestGetOfKnown(t *testing.T) {
	for _, x := range []struct {
		s    string
		want uint64
	}{
		{"", 0},
		{"\x00", 0},
		{"\x80", 128},
		{"\xff", 255},
		{"\x01\x02", 258},
		{"\x02\x01", 513},
		{"\x00\x01\x02", 258},
		{"\x01\x02\x03\x04\x05\x06\x07\x08", 0x0102030405060708},
		{"\x80\x00\x00\x00\x00\x00\x00\x00", 1 << 63},
		{"\xff\xff\xff\xff\xff\xff\xff\xff", math.MaxUint64},
		{"\x09\x00\x00\x00\x00\x00\x00\x00\x01", 1},
		{"\x00\x01\x02\x03\x04\x05\x06\x07\x08", 0x0102030405060708},
		{"\x01\x00\x00\x00\x00\x00\x00\x00\x00", 0},
		{"é", 0xC3A9},
	} {
		if got := Get(x.s); got != x.want {
			t.Errorf("Get of %q: %d, not %d", x.s, got, x.want)
		}
	}
}

func TestGetOfAllTexts(t *testing.T) {
	for _, s := range texts() {
		if got := Get(s); got != get(s) {
			t.Errorf("Get of %q: %d, not %d", s, got, get(s))
		}
	}
}

func TestGetOfAllBytesAtEachPlace(t *testing.T) {
	for n := 1; n <= 10; n++ {
		for at := range n {
			for b := range 256 {
				s := strings.Repeat("\x00", at) + string([]byte{byte(b)}) + strings.Repeat("\x00", n-1-at)
				if got := Get(s); got != get(s) {
					t.Fatalf("Get of %q: %d, not %d", s, got, get(s))
				}
			}
		}
	}
}

// P6.2

func TestAtOfKnown(t *testing.T) {
	s := "\x01\x02\x03\x04\x05\x06\x07\x08\x09\x0a"
	for _, x := range []struct {
		at, width int
		want      uint64
	}{
		{0, 1, 1},
		{0, 2, 0x0102},
		{1, 2, 0x0203},
		{9, 1, 10},
		{8, 2, 0x090a},
		{0, 8, 0x0102030405060708},
		{2, 8, 0x030405060708090a},
		{0, 9, 0x0203040506070809},
		{1, 9, 0x030405060708090a},
		{0, 10, 0x030405060708090a},
		{0, 11, 0},
		{1, 10, 0},
		{2, 9, 0},
		{9, 2, 0},
		{10, 0, 0},
		{10, 1, 0},
		{11, 0, 0},
		{11, 1, 0},
		{11, -1, 0},
		{0, 0, 0},
		{0, -1, 0},
		{5, -1, 0},
		{-1, 0, 0},
		{-1, 1, 0},
		{-1, 2, 0},
		{-2, 10, 0},
		{-10, 1, 0},
		{0, math.MaxInt, 0},
		{1, math.MaxInt, 0},
		{10, math.MaxInt, 0},
		{math.MaxInt, 1, 0},
		{math.MaxInt, 0, 0},
		{math.MaxInt, math.MaxInt, 0},
		{math.MaxInt - 1, 5, 0},
		{5, math.MaxInt - 1, 0},
		{math.MinInt, 1, 0},
		{math.MinInt, math.MinInt, 0},
		{math.MinInt, math.MaxInt, 0},
		{math.MaxInt, math.MinInt, 0},
		{1, math.MinInt, 0},
	} {
		if got := At(s, x.at, x.width); got != x.want {
			t.Errorf("At %d, %d: %#x, not %#x", x.at, x.width, got, x.want)
		}
	}
}

// at is what P6.2 says of At: bytes that are told one by one, if each of them is there.
func at(s string, at, width int) uint64 {
	if width < 1 || width > len(s) {
		return 0
	}
	var part []byte
	for k := range width {
		exact := new(big.Int).Add(big.NewInt(int64(at)), big.NewInt(int64(k)))
		if exact.Sign() < 0 || exact.Cmp(big.NewInt(int64(len(s)))) >= 0 {
			return 0
		}
		part = append(part, s[exact.Int64()])
	}
	return get(string(part))
}

func TestAtOfAllPlaces(t *testing.T) {
	for _, s := range []string{"", "\xff", mixed(7, 1), mixed(8, 2), mixed(9, 3), mixed(24, 4), strings.Repeat("\xff", 20)} {
		for from := -10; from <= len(s)+10; from++ {
			for width := -10; width <= len(s)+10; width++ {
				if got := At(s, from, width); got != at(s, from, width) {
					t.Fatalf("At of %q, %d, %d: %#x", s, from, width, got)
				}
			}
		}
	}
}

func TestAtOfWrongPlaces(t *testing.T) {
	for _, s := range []string{"", "\xff", mixed(8, 5), mixed(24, 6), mixed(500, 7)} {
		for _, from := range widths() {
			for _, width := range widths() {
				if got := At(s, from, width); got != at(s, from, width) {
					t.Fatalf("At of %q, %d, %d: %#x", s, from, width, got)
				}
			}
		}
	}
}

func TestAtOfLongTexts(t *testing.T) {
	s := mixed(500, 8)
	for from := 0; from <= len(s); from += 7 {
		for width := 1; width <= len(s)-from+1; width += 3 {
			if got := At(s, from, width); got != at(s, from, width) {
				t.Fatalf("At of 500 bytes, %d, %d: %#x", from, width, got)
			}
		}
		if got := At(s, from, len(s)-from); got != at(s, from, len(s)-from) {
			t.Fatalf("At of 500 bytes, from %d up to their end: %#x", from, got)
		}
	}
}

func TestSignedOfKnown(t *testing.T) {
	for _, x := range []struct {
		n     uint64
		width int
		want  int
	}{
		{0, 1, 0},
		{127, 1, 127},
		{128, 1, -128},
		{255, 1, -1},
		{256, 1, 0},
		{0x1ff, 1, -1},
		{0x80, 2, 128},
		{0x7fff, 2, 32767},
		{0x8000, 2, -32768},
		{0x7fffff, 3, 8388607},
		{0x800000, 3, -8388608},
		{0xffffff, 3, -1},
		{0x01000000, 3, 0},
		{0x007fffffffffffff, 7, 1<<55 - 1},
		{0x0080000000000000, 7, -1 << 55},
		{0xff00000000000001, 7, 1},
		{math.MaxInt64, 8, math.MaxInt},
		{1 << 63, 8, math.MinInt},
		{math.MaxUint64, 8, -1},
		{1 << 63, 9, math.MinInt},
		{math.MaxInt64, 9, math.MaxInt},
		{1 << 63, 99, math.MinInt},
		{5, math.MaxInt, 5},
		{math.MaxUint64, math.MaxInt, -1},
		{5, 0, 0},
		{math.MaxUint64, 0, 0},
		{5, -1, 0},
		{math.MaxUint64, -1, 0},
		{math.MaxUint64, math.MinInt, 0},
	} {
		if got := Signed(x.n, x.width); got != x.want {
			t.Errorf("Signed of %#x, %d: %d, not %d", x.n, x.width, got, x.want)
		}
	}
}

func TestSignedOfAllWidths(t *testing.T) {
	for _, n := range numbers() {
		for _, width := range widths() {
			if got := Signed(n, width); got != signed(n, width) {
				t.Errorf("Signed of %#x, %d: %d, not %d", n, width, got, signed(n, width))
			}
		}
	}
}

func TestSignedOfAllOfTwoBytes(t *testing.T) {
	for n := range uint64(1 << 16) {
		if got := Signed(n, 1); got != int(int8(n)) {
			t.Fatalf("Signed of %d, 1: %d", n, got)
		}
		if got := Signed(n, 2); got != int(int16(n)) {
			t.Fatalf("Signed of %d, 2: %d", n, got)
		}
	}
}

func TestWideOfKnown(t *testing.T) {
	for _, x := range []struct {
		n, width int
		want     bool
	}{
		{127, 1, true}, {128, 1, false}, {-128, 1, true}, {-129, 1, false}, {255, 1, false}, {256, 1, false}, {0, 1, true}, {-1, 1, true},
		{128, 2, true}, {-129, 2, true}, {32767, 2, true}, {32768, 2, false}, {-32768, 2, true}, {-32769, 2, false},
		{8388607, 3, true}, {8388608, 3, false}, {-8388608, 3, true}, {-8388609, 3, false},
		{math.MaxInt, 7, false}, {math.MinInt, 7, false},
		{math.MaxInt, 8, true}, {math.MinInt, 8, true}, {math.MaxInt, 9, true}, {math.MinInt, 9, true},
		{math.MaxInt, math.MaxInt, true}, {math.MinInt, math.MaxInt, true},
		{0, 0, true}, {1, 0, false}, {-1, 0, false}, {256, 0, false}, {math.MinInt, 0, false},
		{0, -1, true}, {1, -1, false}, {-1, -1, false},
		{0, math.MinInt, true}, {1, math.MinInt, false}, {math.MaxInt, math.MinInt, false},
	} {
		if got := Wide(x.n, x.width); got != x.want {
			t.Errorf("Wide of %d, %d: %v", x.n, x.width, got)
		}
	}
}

func TestWideOfAllWidths(t *testing.T) {
	for _, n := range numbers() {
		for _, width := range widths() {
			if got := Wide(int(n), width); got != wide(int(n), width) {
				t.Errorf("Wide of %d, %d: %v", int(n), width, got)
			}
		}
	}
}

// edges are the least and the greatest number that a width of 1 to 8 has.
func edges(width int) (least, greatest int) {
	least, greatest = -128, 127
	for range width - 1 {
		least, greatest = least*256, greatest*256+255
	}
	return least, greatest
}

func TestEdgesOfEachWidth(t *testing.T) {
	for width := 1; width <= 8; width++ {
		least, greatest := edges(width)
		for _, n := range []int{least, least + 1, -1, 0, 1, greatest - 1, greatest} {
			if !Wide(n, width) || Signed(uint64(n), width) != n {
				t.Errorf("%d is not of %d bytes: Signed of it is %d", n, width, Signed(uint64(n), width))
			}
		}
		if width == 8 {
			continue
		}
		if Wide(least-1, width) || Signed(uint64(least-1), width) != greatest {
			t.Errorf("%d is of %d bytes: Signed of it is %d", least-1, width, Signed(uint64(least-1), width))
		}
		if Wide(greatest+1, width) || Signed(uint64(greatest+1), width) != least {
			t.Errorf("%d is of %d bytes: Signed of it is %d", greatest+1, width, Signed(uint64(greatest+1), width))
		}
	}
}

// P6.3

func TestWhatIsPutIsGot(t *testing.T) {
	for _, n := range numbers() {
		for _, width := range widths() {
			want := rest(new(big.Int).SetUint64(n), counted(width)).Uint64()
			s := Put(n, width)
			if got := Get(s); got != want {
				t.Errorf("of %d, in %d bytes, %d is got", n, width, got)
			}
			if got := At("\xa5"+s+"\x5a", 1, len(s)); got != want {
				t.Errorf("of %d, in %d bytes between others, %d is got", n, width, got)
			}
		}
	}
}

func TestWhatFitsIsGotSigned(t *testing.T) {
	for _, n := range numbers() {
		for _, width := range widths() {
			got := Signed(Get(Put(n, width)), width)
			if got != Signed(n, width) {
				t.Errorf("of %#x, in %d bytes, %d is got", n, width, got)
			}
			if wide(int(n), width) != (got == int(n)) {
				t.Errorf("of %d, in %d bytes, %d is got", int(n), width, got)
			}
		}
	}
}

func TestWhatIsGotIsPut(t *testing.T) {
	for _, s := range texts() {
		last := s[max(len(s)-8, 0):]
		if got := Put(Get(s), len(s)); got != last {
			t.Errorf("%q, got and put: %q", s, got)
		}
	}
}

func TestFieldsSideBySide(t *testing.T) {
	all := numbers()
	for i := range all {
		var s string
		for k := range 9 {
			s += Put(all[(i+k)%len(all)], k)
		}
		at := 0
		for k := range 9 {
			want := rest(new(big.Int).SetUint64(all[(i+k)%len(all)]), k).Uint64()
			if got := At(s, at, k); got != want {
				t.Errorf("of %d, in %d bytes at %d, %d is got", all[(i+k)%len(all)], k, at, got)
			}
			at += k
		}
	}
}
