// Package clear is layer 1: bits that are cleared, all of them, or some. Texts are bytes.
package clear

import (
	"iter"
	"math/bits"
)

// Behind its end a text that is wanted leaves every bit as it is, and a mask takes none.
const (
	wantBehind = 255
	maskBehind = 0
)

// And clears the bits of old that are 0 in want.
func And(old, want string) string {
	out := make([]byte, len(old))
	for i, at := range places(old, want, "") {
		out[i] = at[0] & at[1]
	}
	return string(out)
}

// Torn does what And does to the bits that mask has, and leaves the others as they are.
func Torn(old, want, mask string) string {
	out := make([]byte, len(old))
	for i, at := range places(old, want, mask) {
		out[i] = at[0] & (at[1] | ^at[2])
	}
	return string(out)
}

// May tells whether some mask makes Torn of old and want into got.
func May(old, want, got string) bool {
	if len(got) != len(old) {
		return false
	}
	// With got as the mask's text, a place holds what was, what was wanted, and what came.
	for _, at := range places(old, want, got) {
		set := at[2] &^ at[0]
		lost := at[0] & at[1] &^ at[2]
		if set|lost != 0 {
			return false
		}
	}
	return true
}

// Bits counts the bits that are 1 in old and 0 in got.
func Bits(old, got string) int {
	n := 0
	for _, at := range places(old, got, "") {
		n += bits.OnesCount8(at[0] &^ at[1])
	}
	return n
}

// places goes through the places of old, each with the bytes that old, want and mask have there.
func places(old, want, mask string) iter.Seq2[int, [3]byte] {
	return func(yield func(int, [3]byte) bool) {
		for i := range len(old) {
			at := [3]byte{old[i], byteAt(want, i, wantBehind), byteAt(mask, i, maskBehind)}
			if !yield(i, at) {
				return
			}
		}
	}
}

// byteAt is the byte of s at i, or behind, if s ends ahead of it.
func byteAt(s string, i int, behind byte) byte {
	if i < len(s) {
		return s[i]
	}
	return behind
}
