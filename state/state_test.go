package state

import (
	"encoding/binary"
	"math"
	"slices"
	"testing"

	"dogwatch/api"
)

// The numbers of the document, by themselves: how far a home may be from 0, in steps.
const (
	northmost = 737280
	eastmost  = 1474560
)

// mixed is a number of 64 bits that hangs on seed alone.
func mixed(seed uint64) uint64 {
	seed += 0x9E3779B97F4A7C15
	seed = (seed ^ seed>>30) * 0xBF58476D1CE4E5B9
	seed = (seed ^ seed>>27) * 0x94D049BB133111EB
	return seed ^ seed>>31
}

// legal is what P14.1 says of Legal, rule by rule.
func legal(s State) bool {
	switch s.Mode {
	case 0, 1, 2, 3, 4, 5:
	default:
		return false
	}
	switch s.Iso {
	case 0, 1, 2, 3, 4, 5, 6, 7, 8, 9, 10, 11, 12, 13, 14, 15:
	default:
		return false
	}
	if !s.Home {
		return s.Lat == 0 && s.Lon == 0
	}
	return !(s.Lat < -737280 || s.Lat > 737280 || s.Lon < -1474560 || s.Lon > 1474560)
}

// packed is what P14.2 says of Pack, byte by byte.
func packed(s State) uint64 {
	if !legal(s) {
		return 0
	}
	first := s.Mode
	if s.Armed {
		first += 8
	}
	if s.Home {
		first += 16
	}
	b := [8]byte{byte(first), byte(s.Iso)}
	for k, n := range []int{s.Lat, s.Lon} {
		if n < 0 {
			n += 256 * 256 * 256
		}
		at := 2 + 3*k
		b[at], b[at+1], b[at+2] = byte(n/65536), byte(n/256%256), byte(n%256)
	}
	return binary.BigEndian.Uint64(b[:])
}

// unpacked is what P14.2 says of Unpack, byte by byte.
func unpacked(n uint64) (State, api.Errno) {
	var b [8]byte
	binary.BigEndian.PutUint64(b[:], n)
	if b[0] > 31 {
		return State{}, 13
	}
	s := State{Mode: int(b[0] % 8), Armed: b[0]/8%2 == 1, Home: b[0]/16 == 1, Iso: int(b[1])}
	for k, to := range []*int{&s.Lat, &s.Lon} {
		at := 2 + 3*k
		*to = int(b[at])*65536 + int(b[at+1])*256 + int(b[at+2])
		if b[at] >= 128 {
			*to -= 256 * 256 * 256
		}
	}
	if !legal(s) {
		return State{}, 13
	}
	return s, 0
}

// places are homes on all four sides of 0, near and far, up to the edges.
func places() [][2]int {
	var out [][2]int
	for _, lat := range []int{0, 1, -1, 2, 127, -128, 128, 255, -255, 256, -256, 32767, -32768, 32768, 65535, -65536, 65536, 389000, -389000, northmost - 1, -northmost + 1, northmost, -northmost} {
		for _, lon := range []int{0, 1, -1, 3, 128, -129, 255, 256, -256, 65535, 65536, -65536, 70000, -70000, 1048576, -1048577, eastmost - 1, -eastmost + 1, eastmost, -eastmost} {
			out = append(out, [2]int{lat, lon})
		}
	}
	return out
}

// legals are legal states of each mode, armed or not, with each set of isolated sensors, without a home and with many homes.
func legals() []State {
	var out []State
	for first := range 6 * 2 * 16 {
		bare := State{Mode: first % 6, Armed: first/6%2 == 1, Iso: first / 12}
		out = append(out, bare)
		for _, p := range places() {
			s := bare
			s.Home, s.Lat, s.Lon = true, p[0], p[1]
			out = append(out, s)
		}
	}
	return out
}

// far are whole numbers that are far from all right ones, and such as come to right ones in fewer bits.
func far() []int {
	out := []int{math.MinInt, math.MinInt + 1, math.MaxInt, math.MaxInt - 1, math.MinInt32, math.MaxInt32, math.MaxUint32, 1 << 31, 1 << 40, -1 << 40}
	for _, n := range []int{0, 1, 5, 15, -1, northmost, -northmost, eastmost, -eastmost} {
		for _, bits := range []int{24, 32, 48, 56, 62} {
			out = append(out, 1<<bits+n, -1<<bits+n)
		}
		out = append(out, math.MinInt+max(n, 0), math.MaxInt-max(n, 0))
	}
	return out
}

// wrongModes, wrongIsos, wrongLats and wrongLons are numbers that are none, whatever else a state has.
func wrongModes() []int {
	return append([]int{-1, -2, -3, -8, 6, 7, 8, 9, 13, 16, 21, 24, 255, 256, 261, 65536, -256, -251}, far()...)
}

func wrongIsos() []int {
	return append([]int{-1, -2, -15, -16, 16, 17, 31, 32, 64, 128, 240, 255, 256, 271, 65536, -256, -241}, far()...)
}

func wrongLats() []int {
	return append([]int{northmost + 1, -northmost - 1, northmost + 2, -northmost - 2, 819200, -819200, eastmost, -eastmost, 8388607, -8388608, 8388608, 16777215, 16777216, 16777217}, far()...)
}

func wrongLons() []int {
	return append([]int{eastmost + 1, -eastmost - 1, eastmost + 2, -eastmost - 2, 2 * eastmost, -2 * eastmost, 8388607, -8388608, 8388608, 16777215, 16777216, 16777217}, far()...)
}

// illegals are states that break one rule each.
func illegals() []State {
	var out []State
	for _, base := range []State{{}, {Mode: 5, Armed: true, Iso: 15}, {Mode: 3, Armed: true, Home: true, Lat: -1, Lon: 2, Iso: 5}, {Mode: 2, Home: true, Lat: northmost, Lon: -eastmost}} {
		for _, n := range wrongModes() {
			s := base
			s.Mode = n
			out = append(out, s)
		}
		for _, n := range wrongIsos() {
			s := base
			s.Iso = n
			out = append(out, s)
		}
		base.Home = true
		for _, n := range wrongLats() {
			s := base
			s.Lat = n
			out = append(out, s)
		}
		for _, n := range wrongLons() {
			s := base
			s.Lon = n
			out = append(out, s)
		}
		for _, p := range places() {
			s := base
			s.Home, s.Lat, s.Lon = false, p[0], p[1]
			if s.Lat != 0 || s.Lon != 0 {
				out = append(out, s)
			}
		}
	}
	return out
}

// brokenTwice are states that break two rules at once.
func brokenTwice() []State {
	var out []State
	for _, a := range []int{-1, 6, 8, math.MinInt, math.MaxInt} {
		for _, b := range []int{-1, 16, 256, math.MinInt, math.MaxInt} {
			out = append(out, State{Mode: a, Iso: b}, State{Mode: a, Armed: true, Home: true, Lat: 1, Lon: 1, Iso: b})
		}
		for _, b := range []int{1, -1, northmost + 1, -northmost - 1, math.MinInt, math.MaxInt} {
			out = append(out, State{Mode: a, Lat: b}, State{Mode: a, Lon: b}, State{Mode: a, Lat: b, Lon: -b}, State{Mode: a, Lat: b, Lon: b})
		}
	}
	for _, a := range []int{northmost + 1, -northmost - 1, 16777216, math.MinInt, math.MaxInt} {
		for _, b := range []int{eastmost + 1, -eastmost - 1, 16777216, math.MinInt, math.MaxInt} {
			out = append(out, State{Home: true, Lat: a, Lon: b}, State{Lat: a, Lon: b})
		}
		for _, b := range []int{-1, 16, math.MinInt, math.MaxInt} {
			out = append(out, State{Home: true, Lat: a, Iso: b}, State{Home: true, Lon: 2 * a, Iso: b}, State{Lon: a, Iso: b})
		}
	}
	return append(out, State{Lat: 1, Lon: 1}, State{Lat: 1, Lon: -1}, State{Lat: -1, Lon: 1}, State{Lat: -1, Lon: -1})
}

// numbers are numbers of all kinds: the least and the greatest, those of one bit and of all but one, runs of bits, and mixed ones, with high bytes that are right ones among them.
func numbers() []uint64 {
	out := []uint64{0, 1, 2, math.MaxUint64, math.MaxUint64 - 1, math.MaxInt64, 1 << 63, 0x0123456789ABCDEF, 0xFEDCBA9876543210}
	for k := range 64 {
		out = append(out, 1<<k, 1<<k-1, ^uint64(1<<k), math.MaxUint64<<k)
	}
	for seed := range uint64(20000) {
		n := mixed(seed)
		out = append(out, n, n&0x1FFFFFFFFFFFFFFF, n&0x1F0FFFFFFFFFFFFF, n&0x1D0F07FFFF0FFFFF|1<<60, n&0x0D0F000000000000, n|0x00FFF80000F80000)
	}
	return out
}

// wrongNumbers are numbers that no legal state packs to, by the rule that they break.
func wrongNumbers() []uint64 {
	var out []uint64
	for first := range uint64(256) {
		if first > 31 || first%8 > 5 {
			out = append(out, first<<56, first<<56|0x000F000000000000, first<<56|0x00000B4000168000)
		}
	}
	for iso := range uint64(256) {
		if iso > 15 {
			out = append(out, iso<<48, 0x1D00000000000000|iso<<48, 0x1B00FFFFFF000002|iso<<48)
		}
	}
	for _, place := range []uint64{737281, 737282, 1474560, 8388607, 8388608, 1<<24 - 737281, 1<<24 - 1474560} {
		out = append(out, 0x10<<56|place<<24, 0x10<<56|place<<24|1)
	}
	for _, place := range []uint64{1474561, 1474562, 8388607, 8388608, 1<<24 - 1474561, 1<<24 - 1474562} {
		out = append(out, 0x10<<56|place, 0x10<<56|1<<24|place)
	}
	for _, place := range []uint64{1, 2, 255, 256, 65536, 737280, 1474560, 8388608, 1<<24 - 1, 1<<24 - 737280} {
		out = append(out, place, place<<24, place<<24|place, 0x0D<<56|15<<48|place, 0x0D<<56|15<<48|place<<24)
	}
	return append(out, math.MaxUint64, math.MaxUint64-1, math.MaxInt64, 1<<63)
}

// checkUnpack holds Unpack of n against what the document says; it tells whether they are alike.
func checkUnpack(t *testing.T, n uint64) bool {
	t.Helper()
	s, e := Unpack(n)
	want, wantE := unpacked(n)
	if s != want || e != wantE {
		t.Errorf("Unpack(%#x) = %+v, %d; want %+v, %d", n, s, e, want, wantE)
		return false
	}
	return true
}

// P14.1

func TestDefault(t *testing.T) {
	want := State{Mode: 0, Armed: false, Home: false, Lat: 0, Lon: 0, Iso: 0}
	if s := Default(); s != want || s != (State{}) {
		t.Errorf("Default() = %+v", s)
	}
	if !Legal(Default()) {
		t.Error("Default() is not legal")
	}
}

func TestLegalOfKnown(t *testing.T) {
	for _, x := range []struct {
		s    State
		want bool
	}{
		{State{}, true},
		{State{Armed: true}, true},
		{State{Home: true}, true},
		{State{Mode: 3, Armed: true, Home: true, Lat: -1, Lon: 2, Iso: 5}, true},
		{State{Mode: 0, Iso: 0}, true},
		{State{Mode: 5}, true},
		{State{Mode: 4}, true},
		{State{Mode: 6}, false},
		{State{Mode: -1}, false},
		{State{Iso: 15}, true},
		{State{Iso: 16}, false},
		{State{Iso: -1}, false},
		{State{Home: true, Lat: -737280}, true},
		{State{Home: true, Lat: -737279}, true},
		{State{Home: true, Lat: -737281}, false},
		{State{Home: true, Lat: 737280}, true},
		{State{Home: true, Lat: 737279}, true},
		{State{Home: true, Lat: 737281}, false},
		{State{Home: true, Lon: -1474560}, true},
		{State{Home: true, Lon: -1474559}, true},
		{State{Home: true, Lon: -1474561}, false},
		{State{Home: true, Lon: 1474560}, true},
		{State{Home: true, Lon: 1474559}, true},
		{State{Home: true, Lon: 1474561}, false},
		{State{Home: true, Lat: 1}, true},
		{State{Home: true, Lat: -1}, true},
		{State{Home: true, Lon: 1}, true},
		{State{Home: true, Lon: -1}, true},
		{State{Lat: 1}, false},
		{State{Lat: -1}, false},
		{State{Lon: 1}, false},
		{State{Lon: -1}, false},
		{State{Lat: 1, Lon: 1}, false},
		{State{Lat: 1, Lon: -1}, false},
		{State{Mode: 5, Armed: true, Iso: 15, Lat: 737280, Lon: 1474560}, false},
		{State{Mode: 6, Iso: 16}, false},
		{State{Mode: -1, Iso: -1}, false},
	} {
		if Legal(x.s) != x.want {
			t.Errorf("Legal(%+v) = %v", x.s, !x.want)
		}
	}
}

func TestLegalOfLegals(t *testing.T) {
	for _, s := range legals() {
		if !Legal(s) {
			t.Fatalf("Legal(%+v) = false", s)
		}
	}
}

func TestLegalOfOneBrokenRule(t *testing.T) {
	for _, s := range append(illegals(), brokenTwice()...) {
		if legal(s) {
			t.Fatalf("%+v breaks no rule", s)
		}
		if Legal(s) {
			t.Errorf("Legal(%+v) = true", s)
		}
	}
}

func TestLegalOfAllModesAndSensorsNear(t *testing.T) {
	for mode := -300; mode <= 300; mode++ {
		for iso := -300; iso <= 300; iso++ {
			for _, s := range []State{{Mode: mode, Iso: iso}, {Mode: mode, Armed: true, Home: true, Lat: 5, Lon: -5, Iso: iso}} {
				if Legal(s) != legal(s) {
					t.Fatalf("Legal(%+v) = %v", s, Legal(s))
				}
			}
		}
	}
}

func TestLegalOfAllPlacesNear(t *testing.T) {
	for n := -eastmost - 9; n <= eastmost+9; n++ {
		for _, s := range []State{{Home: true, Lat: n}, {Home: true, Lon: n}, {Lat: n}, {Lon: n}} {
			if Legal(s) != legal(s) {
				t.Fatalf("Legal(%+v) = %v", s, Legal(s))
			}
		}
	}
}

func TestSoundOfKnown(t *testing.T) {
	for _, x := range []struct{ iso, want int }{
		{0, 4}, {1, 3}, {2, 3}, {3, 2}, {4, 3}, {5, 2}, {6, 2}, {7, 1}, {8, 3}, {9, 2}, {10, 2}, {11, 1}, {12, 2}, {13, 1}, {14, 1}, {15, 0},
		{16, 4}, {31, 0}, {32, 4}, {240, 4}, {255, 0}, {256, 4}, {1 << 32, 4}, {1<<32 + 15, 0},
		{-1, 0}, {-2, 1}, {-15, 3}, {-16, 4}, {-17, 0},
		{math.MaxInt, 0}, {math.MaxInt - 1, 1}, {math.MinInt, 4}, {math.MinInt + 1, 3}, {math.MinInt + 15, 0}, {1 << 62, 4},
	} {
		if n := Sound(State{Iso: x.iso}); n != x.want {
			t.Errorf("Sound of %d = %d; want %d", x.iso, n, x.want)
		}
	}
}

func TestSoundOfAll(t *testing.T) {
	isos := far()
	for iso := -5000; iso <= 5000; iso++ {
		isos = append(isos, iso)
	}
	for seed := range uint64(5000) {
		isos = append(isos, int(mixed(seed)))
	}
	for _, iso := range isos {
		want := 0
		for k := range 4 {
			if iso>>k%2 == 0 {
				want++
			}
		}
		for _, s := range []State{{Iso: iso}, {Mode: 5, Armed: true, Home: true, Lat: 15, Lon: -15, Iso: iso}, {Mode: -1, Lat: math.MinInt, Lon: math.MaxInt, Iso: iso}} {
			if n := Sound(s); n != want {
				t.Fatalf("Sound(%+v) = %d; want %d", s, n, want)
			}
		}
	}
}

// P14.2

// known are states with what they pack to.
func known() []struct {
	s State
	n uint64
} {
	return []struct {
		s State
		n uint64
	}{
		{State{}, 0},
		{State{Mode: 1}, 0x0100000000000000},
		{State{Mode: 5}, 0x0500000000000000},
		{State{Armed: true}, 0x0800000000000000},
		{State{Home: true}, 0x1000000000000000},
		{State{Mode: 5, Armed: true, Home: true}, 0x1D00000000000000},
		{State{Iso: 1}, 0x0001000000000000},
		{State{Iso: 15}, 0x000F000000000000},
		{State{Home: true, Lat: 1}, 0x1000000001000000},
		{State{Home: true, Lat: -1}, 0x1000FFFFFF000000},
		{State{Home: true, Lon: 1}, 0x1000000000000001},
		{State{Home: true, Lon: -1}, 0x1000000000FFFFFF},
		{State{Home: true, Lat: -1, Lon: -1}, 0x1000FFFFFFFFFFFF},
		{State{Home: true, Lat: 737280}, 0x10000B4000000000},
		{State{Home: true, Lat: 737279}, 0x10000B3FFF000000},
		{State{Home: true, Lat: -737280}, 0x1000F4C000000000},
		{State{Home: true, Lat: -737279}, 0x1000F4C001000000},
		{State{Home: true, Lon: 1474560}, 0x1000000000168000},
		{State{Home: true, Lon: 1474559}, 0x1000000000167FFF},
		{State{Home: true, Lon: -1474560}, 0x1000000000E98000},
		{State{Home: true, Lon: -1474559}, 0x1000000000E98001},
		{State{Home: true, Lat: 66051, Lon: 263430}, 0x1000010203040506},
		{State{Mode: 3, Armed: true, Home: true, Lat: -1, Lon: 2, Iso: 5}, 0x1B05FFFFFF000002},
		{State{Mode: 2, Armed: true, Home: true, Lat: -66051, Lon: -263430, Iso: 9}, 0x1A09FEFDFDFBFAFA},
		{State{Mode: 5, Armed: true, Home: true, Lat: -737280, Lon: 1474560, Iso: 15}, 0x1D0FF4C000168000},
	}
}

func TestPackOfKnown(t *testing.T) {
	for _, x := range known() {
		if n := Pack(x.s); n != x.n {
			t.Errorf("Pack(%+v) = %#x; want %#x", x.s, n, x.n)
		}
	}
}

func TestPackOfLegals(t *testing.T) {
	for _, s := range legals() {
		if n, want := Pack(s), packed(s); n != want {
			t.Fatalf("Pack(%+v) = %#x; want %#x", s, n, want)
		}
	}
}

func TestPackOfIllegals(t *testing.T) {
	for _, s := range append(illegals(), brokenTwice()...) {
		if n := Pack(s); n != 0 {
			t.Errorf("Pack(%+v) = %#x", s, n)
		}
	}
}

func TestUnpackOfKnown(t *testing.T) {
	for _, x := range known() {
		if s, e := Unpack(x.n); s != x.s || e != api.OK {
			t.Errorf("Unpack(%#x) = %+v, %d; want %+v", x.n, s, e, x.s)
		}
	}
}

func TestUnpackOfLegals(t *testing.T) {
	for _, s := range legals() {
		if got, e := Unpack(packed(s)); got != s || e != api.OK {
			t.Fatalf("Unpack(%#x) = %+v, %d; want %+v", packed(s), got, e, s)
		}
	}
}

func TestUnpackOfWrongNumbers(t *testing.T) {
	for _, n := range wrongNumbers() {
		if s, e := Unpack(n); s != (State{}) || e != api.ErrRange {
			t.Errorf("Unpack(%#x) = %+v, %d; want ErrRange", n, s, e)
		}
	}
}

func TestUnpackOfNumbersOneBitAway(t *testing.T) {
	for i, s := range legals() {
		if i%7 != 0 {
			continue
		}
		for k := range 64 {
			if !checkUnpack(t, packed(s)^1<<k) {
				return
			}
		}
	}
}

func TestUnpackOfNumbersOfAllKinds(t *testing.T) {
	good := 0
	for _, n := range numbers() {
		if !checkUnpack(t, n) {
			return
		}
		if _, e := unpacked(n); e == 0 {
			good++
		}
	}
	if good < 1000 {
		t.Errorf("only %d of the numbers are states", good)
	}
}

func TestUnpackOfAllFirstBytes(t *testing.T) {
	for high := range uint64(1 << 16) {
		for _, low := range []uint64{0, 0x0000010000000000, 0x0000FFFFFF000000, 0x0000000000000001, 0x00000B4000E98000, 0x00000B4001000000} {
			if !checkUnpack(t, high<<48|low) {
				return
			}
		}
	}
}

func TestUnpackOfAllPlaces(t *testing.T) {
	for n := range uint64(1 << 24) {
		if !checkUnpack(t, 0x1D0F<<48|n<<24|0xE98000) || !checkUnpack(t, 0x1000<<48|0xF4C000<<24|n) {
			return
		}
	}
}

func TestUnpackWithoutAHome(t *testing.T) {
	for n := uint64(0); n < 1<<24; n += 97 {
		if !checkUnpack(t, n) || !checkUnpack(t, n<<24) || !checkUnpack(t, 0x0D0F<<48|n<<24|n) {
			return
		}
	}
}

// P14.3

func TestPackedIsUnpackedAsItWas(t *testing.T) {
	for _, s := range legals() {
		if got, e := Unpack(Pack(s)); got != s || e != api.OK {
			t.Fatalf("Unpack(Pack(%+v)) = %+v, %d", s, got, e)
		}
	}
	for seed := range uint64(200000) {
		a, b := mixed(2*seed), mixed(2*seed+1)
		s := State{
			Mode: int(a % 6), Armed: a>>8&1 == 1, Home: true, Iso: int(a >> 16 & 15),
			Lat: int(a>>32%(2*northmost+1)) - northmost,
			Lon: int(b%(2*eastmost+1)) - eastmost,
		}
		if got, e := Unpack(Pack(s)); got != s || e != api.OK || !Legal(s) {
			t.Fatalf("Unpack(Pack(%+v)) = %+v, %d", s, got, e)
		}
	}
}

func TestUnpackedIsPackedAnewAsItWas(t *testing.T) {
	for _, n := range numbers() {
		s, e := Unpack(n)
		if e == api.OK && (Pack(s) != n || !Legal(s)) {
			t.Fatalf("Unpack(%#x) = %+v, which is packed as %#x", n, s, Pack(s))
		}
		if e != api.OK && (s != State{} || e != api.ErrRange) {
			t.Fatalf("Unpack(%#x) = %+v, %d", n, s, e)
		}
	}
}

func TestNoTwoArePackedAlike(t *testing.T) {
	all := legals()
	var out []uint64
	for _, s := range all {
		out = append(out, Pack(s))
	}
	slices.Sort(out)
	if n := len(slices.Compact(out)); n != len(all) {
		t.Errorf("%d states are packed as %d numbers", len(all), n)
	}
}

func TestNoTwoSensorsOrFirstBytesArePackedAlike(t *testing.T) {
	seen := map[uint64]State{}
	for n := range uint64(1 << 16) {
		s, e := Unpack(n << 48)
		if e != api.OK {
			continue
		}
		if was, ok := seen[Pack(s)]; ok {
			t.Fatalf("%+v and %+v are packed alike", was, s)
		}
		seen[Pack(s)] = s
	}
	if len(seen) != 6*2*2*16 {
		t.Errorf("%d states have nothing at their homes; want %d", len(seen), 6*2*2*16)
	}
}
