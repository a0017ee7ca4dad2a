package layout

import (
	"math"
	"testing"

	"dogwatch/api"
)

// The numbers of the document, by themselves.
const (
	placeBytes = 24
	mostSlots  = 12
)

// wrongs are whole numbers that are neither slots, nor how many there are, nor sizes: the least ones and the greatest ones, and such as come to right ones in fewer bits, or times 24.
func wrongs() []int {
	out := []int{math.MinInt, math.MinInt + 1, math.MinInt32, math.MaxInt32, math.MaxInt - 1, math.MaxInt, math.MaxInt / placeBytes, math.MinInt / placeBytes}
	for n := range mostSlots + 2 {
		out = append(out, 256*placeBytes+n, 1<<16+n, 1<<32+n, 1<<61+n, -1<<61+n, 1<<62+n, math.MinInt+n)
		out = append(out, 1<<16+placeBytes*n, 1<<32+placeBytes*n, 1<<62+placeBytes*n, math.MinInt+placeBytes*n)
	}
	return out
}

// slots is what P5.1 says of Slots: the n whose bytes, one by one, are size.
func slots(size int) int {
	bytes := placeBytes
	for n := 1; n <= mostSlots; n++ {
		bytes += placeBytes
		if bytes == size {
			return n
		}
	}
	return 0
}

// P5.1

func TestSizeOfKnown(t *testing.T) {
	for _, x := range []struct{ n, size int }{
		{-2, 0}, {-1, 0}, {0, 0},
		{1, 48}, {2, 72}, {3, 96}, {4, 120}, {5, 144}, {6, 168}, {7, 192}, {8, 216}, {9, 240}, {10, 264}, {11, 288}, {12, 312},
		{13, 0}, {14, 0}, {24, 0}, {48, 0}, {72, 0},
	} {
		if got := Size(x.n); got != x.size {
			t.Errorf("Size of %d: %d, not %d", x.n, got, x.size)
		}
		if got := Even(x.n); got != (x.size > 0) {
			t.Errorf("Even of %d: %v", x.n, got)
		}
	}
}

func TestSizeOfWrongNumbers(t *testing.T) {
	for _, n := range wrongs() {
		if Size(n) != 0 || Even(n) {
			t.Errorf("Size and Even of %d: %d, %v", n, Size(n), Even(n))
		}
	}
}

func TestEvenOfOddNumbersToo(t *testing.T) {
	for n := -30; n < 400; n++ {
		if Even(n) != (n >= 1 && n <= mostSlots) {
			t.Errorf("Even of %d: %v", n, Even(n))
		}
	}
}

func TestSlotsOfKnown(t *testing.T) {
	for _, x := range []struct{ size, n int }{
		{0, 0}, {1, 0}, {12, 0}, {24, 0}, {47, 0}, {48, 1}, {49, 0}, {60, 0}, {71, 0}, {72, 2}, {73, 0},
		{287, 0}, {288, 11}, {289, 0}, {311, 0}, {312, 12}, {313, 0}, {335, 0}, {336, 0}, {337, 0}, {400, 0},
		{-1, 0}, {-24, 0}, {-48, 0}, {-72, 0}, {-312, 0},
	} {
		if got := Slots(x.size); got != x.n {
			t.Errorf("Slots of %d: %d, not %d", x.size, got, x.n)
		}
	}
}

func TestSlotsOfAllSizes(t *testing.T) {
	for size := -1000; size <= 1000; size++ {
		if got := Slots(size); got != slots(size) {
			t.Errorf("Slots of %d: %d, not %d", size, got, slots(size))
		}
	}
}

func TestSlotsOfWrongSizes(t *testing.T) {
	for _, size := range wrongs() {
		if got := Slots(size); got != 0 {
			t.Errorf("Slots of %d: %d", size, got)
		}
	}
}

func TestSlotsOfSizes(t *testing.T) {
	for n := 1; n <= mostSlots; n++ {
		size := Size(n)
		if Slots(size) != n {
			t.Errorf("Slots of Size of %d: %d", n, Slots(size))
		}
		if Slots(size-1) != 0 || Slots(size+1) != 0 {
			t.Errorf("one below Size of %d, and one above: %d, %d", n, Slots(size-1), Slots(size+1))
		}
	}
}

// P5.2

func TestPlacesOfKnown(t *testing.T) {
	for _, x := range []struct{ slot, at, mark int }{
		{-2, -1, -1}, {-1, -1, -1},
		{0, 0, 22}, {1, 24, 46}, {2, 48, 70}, {3, 72, 94}, {4, 96, 118}, {5, 120, 142}, {6, 144, 166},
		{7, 168, 190}, {8, 192, 214}, {9, 216, 238}, {10, 240, 262}, {11, 264, 286}, {12, 288, 310},
		{13, -1, -1}, {14, -1, -1}, {24, -1, -1}, {48, -1, -1}, {312, -1, -1}, {-24, -1, -1},
	} {
		if at, mark := At(x.slot), Mark(x.slot); at != x.at || mark != x.mark {
			t.Errorf("At and Mark of %d: %d, %d, not %d, %d", x.slot, at, mark, x.at, x.mark)
		}
	}
}

func TestPlacesOfAllSlots(t *testing.T) {
	for slot := -400; slot <= 400; slot++ {
		at, mark := -1, -1
		if slot >= 0 && slot <= mostSlots {
			at, mark = placeBytes*slot, placeBytes*(slot+1)-2
		}
		if At(slot) != at || Mark(slot) != mark {
			t.Errorf("At and Mark of %d: %d, %d, not %d, %d", slot, At(slot), Mark(slot), at, mark)
		}
	}
}

func TestPlacesOfWrongSlots(t *testing.T) {
	for _, slot := range wrongs() {
		if at, mark := At(slot), Mark(slot); at != -1 || mark != -1 {
			t.Errorf("At and Mark of %d: %d, %d", slot, at, mark)
		}
	}
}

// P5.3

// owners tells of each byte of a bank of n slots which place it is of; it goes wrong where a place is out of the bank, or touches another one.
func owners(t *testing.T, n int) []int {
	t.Helper()
	out := make([]int, Size(n))
	for i := range out {
		out[i] = -1
	}
	for slot := range n + 1 {
		at := At(slot)
		if at < 0 || at+api.RecordSize > len(out) {
			t.Fatalf("of a bank of %d slots, %d is out of it: at %d", n, slot, at)
		}
		for i := range api.RecordSize {
			if out[at+i] != -1 {
				t.Fatalf("of a bank of %d slots, %d and %d touch at %d", n, out[at+i], slot, at+i)
			}
			out[at+i] = slot
		}
	}
	return out
}

func TestSlotsDoNotTouch(t *testing.T) {
	for n := 1; n <= api.MaxSlots; n++ {
		for i, slot := range owners(t, n) {
			if slot != i/api.RecordSize {
				t.Errorf("of a bank of %d slots, byte %d is of %d", n, i, slot)
			}
		}
	}
}

func TestMarksAreTheEndsOfTheirSlots(t *testing.T) {
	for n := 1; n <= api.MaxSlots; n++ {
		of := owners(t, n)
		for slot := range n + 1 {
			mark := Mark(slot)
			if mark < 0 || mark+2 > len(of) || of[mark] != slot || of[mark+1] != slot {
				t.Fatalf("of a bank of %d slots, the mark of %d is at %d", n, slot, mark)
			}
			if mark+2 < len(of) && of[mark+2] == slot {
				t.Errorf("of a bank of %d slots, the mark of %d, at %d, is not its end", n, slot, mark)
			}
		}
	}
}

func TestOtherSlotsAreOutOfTheBank(t *testing.T) {
	for n := 1; n <= api.MaxSlots; n++ {
		for slot := n + 1; slot <= api.MaxSlots; slot++ {
			if At(slot) < Size(n) || Mark(slot) < Size(n) {
				t.Errorf("%d is in a bank of %d slots: at %d, marked at %d", slot, n, At(slot), Mark(slot))
			}
		}
	}
}

func TestAllPlacesAreEven(t *testing.T) {
	for slot := range api.MaxSlots + 1 {
		if At(slot)%2 != 0 || Mark(slot)%2 != 0 || Size(slot)%2 != 0 {
			t.Errorf("At, Mark and Size of %d: %d, %d, %d", slot, At(slot), Mark(slot), Size(slot))
		}
	}
}
