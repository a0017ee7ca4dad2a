package crc

import (
	"hash/crc32"
	"math"
	"math/bits"
	"strings"
	"testing"
)

// mixed is a text of n bytes that hangs on seed alone.
func mixed(n int, seed uint32) string {
	out := make([]byte, n)
	for i := range out {
		seed = seed*1664525 + 1013904223
		out[i] = byte(seed >> 24)
	}
	return string(out)
}

// stepByBits is what P2.1 says of Step, of polynomials: c with its bits in the other order, with b at its upper end, is multiplied by x^8, and what is left of it by that of IEEE 802.3 is turned back.
func stepByBits(c uint32, b byte) uint32 {
	p := uint64(bits.Reverse32(c)^uint32(bits.Reverse8(b))<<24) << 8
	for k := 39; k >= 32; k-- {
		if p>>k&1 == 1 {
			p ^= 0x104C11DB7 << (k - 32)
		}
	}
	return bits.Reverse32(uint32(p))
}

// sumBySteps is what P2.1 says of Sum.
func sumBySteps(s string) uint32 {
	c := uint32(math.MaxUint32)
	for _, b := range []byte(s) {
		c = Step(c, b)
	}
	return ^c
}

// texts are the empty one, those of one byte, and others up to the bound of sums and somewhat behind it.
func texts() []string {
	out := []string{"", "123456789", "a", "abc", "é\x00\xff", strings.Repeat("\x00", 1000), strings.Repeat("\xff", 1000)}
	for b := range 256 {
		out = append(out, string([]byte{byte(b)}))
	}
	for _, n := range []int{2, 3, 4, 5, 18, 22, 24, 255, 256, 257, 500, 999, 1000, 1010} {
		out = append(out, mixed(n, uint32(n)))
	}
	return out
}

// P2.1

func TestStepOfKnown(t *testing.T) {
	for _, x := range []struct {
		c    uint32
		b    byte
		want uint32
	}{
		{0, 0, 0},
		{0, 1, 0x77073096},
		{0, 128, 0xEDB88320},
		{0, 255, 0x2D02EF8D},
		{1, 1, 0},
		{128, 0, 0xEDB88320},
		{0x100, 0, 1},
		{0xABCDEF00, 0, 0x00ABCDEF},
		{0xFFFFFFFF, 0, 0x2DFD1072},
		{0xFFFFFFFF, 255, 0x00FFFFFF},
	} {
		if got := Step(x.c, x.b); got != x.want {
			t.Errorf("Step of %#x and %d: %#x, not %#x", x.c, x.b, got, x.want)
		}
	}
}

func TestStepOfAllBytes(t *testing.T) {
	cs := []uint32{0, 1, 0xFF, 0x100, 0xEDB88320, 0x12345678, 0x7FFFFFFF, 0x80000000, math.MaxUint32}
	for k := range 32 {
		cs = append(cs, 1<<k)
	}
	for _, c := range cs {
		for b := range 256 {
			if got := Step(c, byte(b)); got != stepByBits(c, byte(b)) {
				t.Fatalf("Step of %#x and %d: %#x", c, b, got)
			}
		}
	}
}

func TestSumOfKnown(t *testing.T) {
	for s, want := range map[string]uint32{
		"":                         0,
		"123456789":                0xCBF43926,
		"a":                        0xE8B7BE43,
		"abc":                      0x352441C2,
		"\x00":                     0xD202EF8D,
		"\xff":                     0xFF000000,
		"\x00\x00\x00\x00":         0x2144DF1C,
		"\xff\xff\xff\xff":         0xFFFFFFFF,
		strings.Repeat("\x00", 32): 0x190A55AD,
		strings.Repeat("\xff", 32): 0xFF6CAB0B,
		"The quick brown fox jumps over the lazy dog": 0x414FA339,
	} {
		if got := Sum(s); got != want {
			t.Errorf("Sum of %q: %#x, not %#x", s, got, want)
		}
	}
}

func TestSumGoesOnByStep(t *testing.T) {
	for _, s := range texts() {
		got := Sum(s)
		if got != sumBySteps(s) || got != crc32.ChecksumIEEE([]byte(s)) {
			t.Errorf("Sum of %q: %#x", s, got)
		}
	}
}

func TestSumHangsOnItsTextAlone(t *testing.T) {
	for _, s := range texts() {
		first := Sum(s)
		Sum(mixed(1000, 9))
		Step(first, 7)
		if Sum(s) != first {
			t.Errorf("Sum of %q is another one the second time", s)
		}
	}
}

// P2.2

func TestRangeOfKnown(t *testing.T) {
	s := "xx123456789y"
	for _, x := range []struct {
		from, to int
		want     uint32
	}{
		{2, 11, 0xCBF43926},
		{0, 12, Sum(s)},
		{-1, 99, Sum(s)},
		{math.MinInt, math.MaxInt, Sum(s)},
		{-1, 1, Sum("x")},
		{math.MinInt, 1, Sum("x")},
		{11, 12, Sum("y")},
		{11, 13, Sum("y")},
		{11, math.MaxInt, Sum("y")},
		{2, 2, 0},
		{0, 0, 0},
		{5, 3, 0},
		{11, 2, 0},
		{12, 12, 0},
		{12, 99, 0},
		{99, 100, 0},
		{99, 12, 0},
		{-4, 0, 0},
		{-4, -2, 0},
		{3, -1, 0},
		{math.MaxInt, math.MinInt, 0},
		{math.MinInt, math.MinInt, 0},
		{math.MaxInt, math.MaxInt, 0},
	} {
		if got := Range(s, x.from, x.to); got != x.want {
			t.Errorf("Range from %d to %d: %#x, not %#x", x.from, x.to, got, x.want)
		}
	}
}

func TestRangeOfNoBytes(t *testing.T) {
	for _, from := range []int{math.MinInt, -1, 0, 1, math.MaxInt} {
		for _, to := range []int{math.MinInt, -1, 0, 1, math.MaxInt} {
			if got := Range("", from, to); got != 0 {
				t.Errorf("Range of no bytes from %d to %d: %#x", from, to, got)
			}
		}
	}
}

func TestRangeOfAllParts(t *testing.T) {
	for _, s := range []string{"", "a", "123456789", mixed(24, 2)} {
		for from := -3; from < len(s)+3; from++ {
			for to := -3; to < len(s)+3; to++ {
				var part []byte
				for i := range len(s) {
					if from <= i && i < to {
						part = append(part, s[i])
					}
				}
				if got := Range(s, from, to); got != crc32.ChecksumIEEE(part) {
					t.Errorf("Range of %q from %d to %d: %#x", s, from, to, got)
				}
			}
		}
	}
}

// P2.3

// turned is s, with the bits of diff turned in the four bytes from at on.
func turned(s string, at int, diff uint32) string {
	out := []byte(s)
	for k := 0; k < 4 && at+k < len(s); k++ {
		out[at+k] ^= byte(diff >> (8 * k))
	}
	return string(out)
}

func TestSumsOfBytesThatDiffer(t *testing.T) {
	diffs := []uint32{1, 0x80, 0xFF, 0x100, 0x101, 0xFFFF, 0x10001, 0x01000001, 0x80000000, 0xEDB88320, 0x04C11DB7, math.MaxUint32}
	for seed := range uint32(20) {
		diffs = append(diffs, seed*1664525+1013904223)
	}
	for _, s := range texts() {
		// Long texts are tried at some places only: there are many of them, and each one asks for a whole sum.
		for at := 0; at < len(s); at += 1 + len(s)/100 {
			for _, diff := range diffs {
				other := turned(s, at, diff)
				if other != s && Sum(other) == Sum(s) {
					t.Fatalf("%q and, at %d, %#x: one sum", s, at, diff)
				}
			}
		}
	}
}

// What a sum changes by, where bits differ, is what it changes by for each of them, taken together (exclusive or).
// So all 2^32 - 1 differences within four bytes change it just if no some of the 32 single ones come to 0.
func TestSumsOfAllDifferencesWithinFour(t *testing.T) {
	for _, s := range []string{"1234", "123456789", mixed(22, 3), mixed(1000, 4)} {
		for at := range len(s) - 3 {
			var basis [32]uint32
			for k := range 32 {
				change := Sum(s) ^ Sum(turned(s, at, 1<<k))
				for change != 0 {
					top := bits.Len32(change) - 1
					if basis[top] == 0 {
						basis[top] = change
						break
					}
					change ^= basis[top]
				}
				if change == 0 {
					t.Fatalf("%q, at %d: some bits up to bit %d change nothing", s, at, k)
				}
			}
		}
	}
}

func TestSumsOfAllBytesAtOnePlace(t *testing.T) {
	for _, s := range []string{"\x00", "1234", mixed(24, 5)} {
		for at := range len(s) {
			seen := map[uint32]int{}
			for b := range 256 {
				sum := Sum(s[:at] + string([]byte{byte(b)}) + s[at+1:])
				if other, ok := seen[sum]; ok {
					t.Fatalf("%q, with %d and %d at %d: one sum", s, other, b, at)
				}
				seen[sum] = b
			}
		}
	}
}
