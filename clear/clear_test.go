package clear

import (
	"strings"
	"testing"
)

// allBytes is every byte once, in rising order.
func allBytes() string {
	out := make([]byte, 256)
	for i := range out {
		out[i] = byte(i)
	}
	return string(out)
}

// same is 256 times the byte b.
func same(b byte) string {
	return strings.Repeat(string([]byte{b}), 256)
}

// mixed is a text of n bytes that hangs on seed alone.
func mixed(n int, seed uint32) string {
	out := make([]byte, n)
	for i := range out {
		seed = seed*1664525 + 1013904223
		out[i] = byte(seed >> 24)
	}
	return string(out)
}

// bit is the bit k of s, counted from its first byte's lowest one on; behind the end of s all bits are those of behind.
func bit(s string, k int, behind byte) bool {
	b := behind
	if k/8 < len(s) {
		b = s[k/8]
	}
	return b>>(k%8)&1 == 1
}

// tornByBits is what P1.1 says of Torn, bit by bit.
func tornByBits(old, want, mask string) string {
	out := make([]byte, len(old))
	for k := range 8 * len(old) {
		stays := bit(old, k, 0)
		if bit(mask, k, 0) {
			stays = stays && bit(want, k, 255)
		}
		if stays {
			out[k/8] |= 1 << (k % 8)
		}
	}
	return string(out)
}

// lostByBits is what P1.2 says of Bits, bit by bit.
func lostByBits(old, got string) int {
	n := 0
	for k := range 8 * len(old) {
		if bit(old, k, 0) && !bit(got, k, 255) {
			n++
		}
	}
	return n
}

// texts are of all the lengths that matter beside each other.
func texts() []string {
	return []string{"", "\x00", "\xff", "\x0f", "\xf0", "\x81", "\x00\x00", "\xff\xff", "\x55\xaa", "\xff\x00\xff", mixed(3, 1), mixed(24, 2), mixed(499, 3), mixed(500, 4), strings.Repeat("\xff", 500)}
}

// P1.1

func TestAndOfAllBytes(t *testing.T) {
	for b := range 256 {
		and := And(same(byte(b)), allBytes())
		for i := range 256 {
			if and[i] != byte(b&i) {
				t.Fatalf("And of %d and %d: %d", b, i, and[i])
			}
		}
	}
}

func TestAndOfOtherLengths(t *testing.T) {
	for _, x := range []struct{ old, want, and string }{
		{"", "", ""},
		{"", "\x00\x00", ""},
		{"\x5a", "", "\x5a"},
		{"\xff\x01\x80", "\x0f", "\x0f\x01\x80"},
		{"\xff", "\x0f\x00\x00", "\x0f"},
		{"\xff\xfe\xc3\xa9", "\xf0\xf0\xff\x00", "\xf0\xf0\xc3\x00"},
	} {
		if got := And(x.old, x.want); got != x.and {
			t.Errorf("And of %q and %q: %q, not %q", x.old, x.want, got, x.and)
		}
	}
}

func TestTornOfAllBytes(t *testing.T) {
	for _, want := range []byte{0, 1, 15, 0x55, 0x80, 0xaa, 0xf0, 255} {
		for b := range 256 {
			torn := Torn(same(byte(b)), same(want), allBytes())
			if torn != tornByBits(same(byte(b)), same(want), allBytes()) {
				t.Fatalf("Torn of %d and %d by every mask: %q", b, want, torn)
			}
		}
	}
}

func TestTornOfOtherLengths(t *testing.T) {
	for _, x := range []struct{ old, want, mask, torn string }{
		{"\xff", "\x0f", "\x81", "\x7f"},
		{"", "\x00", "\xff", ""},
		{"\xff", "\x0f", "", "\xff"},
		{"\xff\xff", "\x0f\x0f", "\xff", "\x0f\xff"},
		{"\xff\xff", "\x0f", "\xff\xff", "\x0f\xff"},
		{"\xff", "\x0f\x00", "\x3c\xff", "\xcf"},
		{"\x0f", "\xf0", "\x03", "\x0c"},
		{"\x00", "\xff", "\xff", "\x00"},
	} {
		if got := Torn(x.old, x.want, x.mask); got != x.torn {
			t.Errorf("Torn of %q, %q and %q: %q, not %q", x.old, x.want, x.mask, got, x.torn)
		}
	}
}

func TestTornOfAllTexts(t *testing.T) {
	for _, old := range texts() {
		for _, want := range texts() {
			if And(old, want) != tornByBits(old, want, strings.Repeat("\xff", len(old))) {
				t.Errorf("And of %q and %q: %q", old, want, And(old, want))
			}
			for _, mask := range texts() {
				if Torn(old, want, mask) != tornByBits(old, want, mask) {
					t.Errorf("Torn of %q, %q and %q: %q", old, want, mask, Torn(old, want, mask))
				}
			}
		}
	}
}

// P1.2

// Of each old and want the bytes that come by some mask are gathered, and May has to tell just these.
func TestMayIsSomeMask(t *testing.T) {
	for _, want := range []byte{0, 1, 15, 0x55, 0x80, 0xaa, 0xf0, 255} {
		for b := range 256 {
			old := string([]byte{byte(b)})
			comes := Torn(same(byte(b)), same(want), allBytes())
			for g := range 256 {
				got := string([]byte{byte(g)})
				if May(old, string([]byte{want}), got) != strings.Contains(comes, got) {
					t.Fatalf("May of %d, %d and %d", b, want, g)
				}
			}
		}
	}
}

func TestMayOfOtherLengths(t *testing.T) {
	for _, x := range []struct {
		old, want, got string
		may            bool
	}{
		{"", "", "", true},
		{"", "\x00", "", true},
		{"", "", "\x00", false},
		{"", "", "\xff", false},
		{"\xff", "\x00", "", false},
		{"\xff", "", "", false},
		{"\x00", "", "", false},
		{"\xff", "\x00", "\xff\x00", false},
		{"\xff", "\x00", "\xff\xff", false},
		{"\xff", "", "\xff", true},
		{"\xff", "", "\xfe", false},
		{"\xff\xff", "\x00", "\x00\xff", true},
		{"\xff\xff", "\x00", "\x5a\xff", true},
		{"\xff\xff", "\x00", "\x00\x7f", false},
		{"\xf0\xff", "\xff\x00\x00", "\xf0\x12", true},
		{"\xf0\xff", "\xff\x00\x00", "\xf1\x12", false},
		{"\xf0\xff", "\xff\x00\x00", "\x70\x12", false},
		{"\x0f\x0f\x0f", "\x00\x00\x00", "\x0f\x0f\x10", false},
	} {
		if got := May(x.old, x.want, x.got); got != x.may {
			t.Errorf("May of %q, %q and %q: %v", x.old, x.want, x.got, got)
		}
	}
}

func TestMayOfAllTexts(t *testing.T) {
	for _, old := range texts() {
		for _, want := range texts() {
			for _, mask := range texts() {
				torn := Torn(old, want, mask)
				if !May(old, want, torn) {
					t.Errorf("what is torn may not be: %q, %q, %q", old, want, mask)
				}
				if May(old, want, torn+"\xff") || len(torn) > 0 && May(old, want, torn[:len(torn)-1]) {
					t.Errorf("another length may be: %q, %q, %q", old, want, mask)
				}
			}
		}
	}
}

func TestBitsOfAllBytes(t *testing.T) {
	for b := range 256 {
		for g := range 256 {
			old, got := string([]byte{byte(b)}), string([]byte{byte(g)})
			if Bits(old, got) != lostByBits(old, got) {
				t.Fatalf("Bits of %d and %d: %d", b, g, Bits(old, got))
			}
		}
	}
}

func TestBitsOfOtherLengths(t *testing.T) {
	for _, x := range []struct {
		old, got string
		n        int
	}{
		{"", "", 0},
		{"", "\x00\x00", 0},
		{"\xff", "", 0},
		{"\xff\xff", "\x00", 8},
		{"\xff", "\x00\x00", 8},
		{"\xff\x81", "\x7f\x00", 3},
		{"\x00", "\xff", 0},
		{"\x0f", "\xf0", 4},
		{strings.Repeat("\xff", 500), strings.Repeat("\x00", 500), 4000},
	} {
		if n := Bits(x.old, x.got); n != x.n {
			t.Errorf("Bits of %q and %q: %d, not %d", x.old, x.got, n, x.n)
		}
	}
}

func TestBitsOfAllTexts(t *testing.T) {
	for _, old := range texts() {
		for _, got := range texts() {
			if n := Bits(old, got); n != lostByBits(old, got) {
				t.Errorf("Bits of %q and %q: %d", old, got, n)
			}
		}
	}
}

// P1.3

func TestNoBitIsSet(t *testing.T) {
	for _, old := range texts() {
		for _, want := range texts() {
			for _, mask := range texts() {
				for _, came := range []string{And(old, want), Torn(old, want, mask)} {
					if len(came) != len(old) || lostByBits(came, old) != 0 {
						t.Errorf("a bit is set: %q, %q, %q: %q", old, want, mask, came)
					}
				}
			}
		}
	}
}

func TestNothingThatSetsABitMayBe(t *testing.T) {
	for b := range 256 {
		for k := range 8 {
			set := byte(b) | 1<<k
			if set != byte(b) && May(string([]byte{byte(b)}), "\xff", string([]byte{set})) {
				t.Errorf("the bit %d of %d is set", k, b)
			}
		}
	}
}

func TestTornAndDoneOnceMore(t *testing.T) {
	for _, old := range texts() {
		for _, want := range texts() {
			whole := And(old, want)
			for _, mask := range texts() {
				torn := Torn(old, want, mask)
				if And(torn, want) != whole {
					t.Errorf("torn, and done once more: %q, %q, %q: %q", old, want, mask, And(torn, want))
				}
				if Bits(old, torn)+Bits(torn, whole) != Bits(old, whole) {
					t.Errorf("bits are lost on the way: %q, %q, %q", old, want, mask)
				}
			}
		}
	}
}
