package console

import (
	"fmt"
	"math"
	"regexp"
	"slices"
	"strconv"
	"strings"
	"testing"

	"dogwatch/command"
	"dogwatch/flash"
	"dogwatch/journal"
	"dogwatch/script"
	"dogwatch/state"
	"dogwatch/super"
	"dogwatch/vote"
)

// The numbers of the document, by themselves: the kinds of commands.
const (
	toGo = 1 + iota
	toArm
	toDisarm
	toHome
	toIsolate
	toRestore
)

const (
	noLine = "error 33"
	// blankState is what is told of a flight of which nothing was kept.
	blankState = "mode 0 iso 0"
	place      = 24
)

// The oracle: what the document says, sentence by sentence.

// parts is s between these bytes.
func parts(s string, between ...byte) []string {
	var out []string
	begin := 0
	for i := range len(s) + 1 {
		if i == len(s) || slices.Contains(between, s[i]) {
			out = append(out, s[begin:i])
			begin = i + 1
		}
	}
	return out
}

// wordsOf is the words of each line that has one.
func wordsOf(s string) [][]string {
	var out [][]string
	for _, line := range parts(s, 10) {
		words := slices.DeleteFunc(parts(line, 9, 13, 32), func(w string) bool { return w == "" })
		if len(words) > 0 {
			out = append(out, words)
		}
	}
	return out
}

// asNumber is what a number looks like.
var asNumber = regexp.MustCompile(`\A-?[0-9]{1,9}\z`)

// numberOf is what P23.1 says of Number.
func numberOf(s string) (int, bool) {
	if !asNumber.MatchString(s) {
		return 0, false
	}
	n, err := strconv.Atoi(s)
	return n, err == nil
}

// textOf is what P23.1 says of Text.
func textOf(s state.State) string {
	armed, home := "", ""
	if s.Armed {
		armed = " armed"
	}
	if s.Home {
		home = fmt.Sprintf(" home %d %d", s.Lat, s.Lon)
	}
	return fmt.Sprintf("mode %d%s%s iso %d", s.Mode, armed, home, s.Iso)
}

// told is a flight that is told by lines: its supervisor, and the power that is said.
type told struct {
	x super.Super
	p super.Power
}

// begun is a flight ahead of all lines.
func begun() *told {
	return &told{x: script.Begin(4, 100).X, p: super.Power{Cut: -1}}
}

// said is SAID.
func (f *told) said(err int) string {
	head := []string{"hold", "run", "failed", "off"}[f.x.Phase]
	if err != 0 {
		head = fmt.Sprint("error ", err)
	}
	return head + " " + textOf(f.x.S)
}

// asked and seen are what is said of an Ask, and of a See.
func (f *told) asked(c command.Command) string {
	x, err := super.Command(f.x, c, f.p)
	f.x, f.p = x, super.Power{Cut: -1}
	return f.said(int(err))
}

func (f *told) seen(s vote.Sample) string {
	x, err := super.Sample(f.x, s, f.p)
	f.x, f.p = x, super.Power{Cut: -1}
	return f.said(int(err))
}

// line is what P23.2 says of the words of a line.
func (f *told) line(words []string) string {
	var n []int
	for _, w := range words[1:] {
		k, is := numberOf(w)
		if !is {
			return noLine
		}
		n = append(n, k)
	}
	switch fmt.Sprint(words[0], " ", len(n)) {
	case "begin 2":
		f.x = script.Begin(n[0], n[1]).X
		return f.said(0)
	case "go 1":
		return f.asked(command.Command{Kind: toGo, N: n[0]})
	case "arm 0":
		return f.asked(command.Command{Kind: toArm})
	case "disarm 0":
		return f.asked(command.Command{Kind: toDisarm})
	case "isolate 1":
		return f.asked(command.Command{Kind: toIsolate, N: n[0]})
	case "restore 1":
		return f.asked(command.Command{Kind: toRestore, N: n[0]})
	case "home 2":
		return f.asked(command.Command{Kind: toHome, Lat: float64(n[0]), Lon: float64(n[1])})
	case "air 0":
		return f.seen(vote.Sample{Alt: 10, Speed: 10, Thrust: 1})
	case "ground 0":
		return f.seen(vote.Sample{Alt: 0, Speed: 0, Thrust: 0})
	case "nothing 0":
		return f.seen(vote.Sample{Alt: 1.5, Speed: 2, Thrust: 0.2})
	case "reset 0":
		f.x = super.Boot(f.x.F)
		return f.said(0)
	case "turn 1":
		f.x = super.Boot(script.Flip(f.x.F, n[0]))
		return f.said(0)
	case "cut 2":
		low := (n[1]%256 + 256) % 256
		f.p = super.Power{Cut: n[0], Mask: same(300, byte(low))}
		return "ok"
	case "wear 0":
		return fmt.Sprint("wear ", journal.Wear(f.x.F))
	}
	return noLine
}

// replies are what P23.2 says of Lines, and the flight behind them all.
func replies(s string) ([]string, *told) {
	var out []string
	f := begun()
	for _, words := range wordsOf(s) {
		out = append(out, f.line(words))
	}
	return out, f
}

// What the tests hand in.

// mixed is a number that hangs on seed alone.
func mixed(seed uint64) uint64 {
	seed += 0x9E3779B97F4A7C15
	seed = (seed ^ seed>>30) * 0xBF58476D1CE4E5B9
	seed = (seed ^ seed>>27) * 0x94D049BB133111EB
	return seed ^ seed>>31
}

// of is the element of l that n leads to.
func of[E any](l []E, n uint64) E {
	return l[n%uint64(len(l))]
}

// same is n times the byte b.
func same(n int, b byte) string {
	return strings.Repeat(string([]byte{b}), n)
}

// far are numbers a long way from 0.
func far() []int {
	return []int{math.MinInt, math.MinInt + 1, -1 << 62, -1 << 32, -1000000000, -999999999, 999999999, 1000000000, 1 << 31, 1 << 60, math.MaxInt}
}

// lines is a text of these lines; behind the last one there is no byte 10.
func lines(l ...string) string {
	return strings.Join(l, "\n")
}

// times is n times these lines.
func times(n int, l ...string) string {
	return lines(slices.Repeat(l, n)...)
}

// stands are three samples that agree that it stands, flies three that it flies.
func stands() string {
	return times(3, "ground")
}

func flies() string {
	return times(3, "air")
}

// kinds are lines of all kinds, which are done.
func kinds() []string {
	return []string{"begin 2 9", "go 2", "arm", "disarm", "isolate 1", "restore 1", "home 1 -2", "air", "ground", "nothing", "reset", "turn 3", "cut 1 255", "wear"}
}

// noNumbers are texts that tell no number.
func noNumbers() []string {
	return []string{
		"", "-", "--", "--1", "-+1", "+", "+1", "+-1", "1-", "1-1", "1+", "- 1", "-1-", "-0-", "0-",
		"1234567890", "0000000001", "0000000000", "-1234567890", "-0000000000", "9223372036854775807", "99999999999999999999",
		" 1", "1 ", "\t1", "1\r", "1\n", "\n1", "1\x00", "\x001", "\x00", " ", "1 1",
		"a", "1a", "a1", "1e1", "1.0", "1.", ".1", "0x1", "0b1", "0o1", "1_0", "_1", "1,0", "Inf", "NaN", "ok",
		"\xd9\xa1", "\xef\xbc\x91", "1\xc2\xa0", "\xe2\x88\x921", "\xc2\xb2", "\xff", "\xb1", "1\xff", "\x2f", "\x3a", "1\x2f", "1\x3a", "/", ":",
		same(500, '0'), same(500, '1'), same(500, '-'), "-" + same(500, '0'),
	}
}

// noLines are lines of no kind.
func noLines() []string {
	return []string{
		"x", "-", "1", "0", "33", "error", "hold", "run", "ok", "mode", "iso", "armed", "armed 1", "power", "power 1 255", "lead 1", "see", "ask", "go1", "go,1", "go=1", "go-1",
		"ar", "arms", "aarm", "armarm", "rm", "begi 1 1", "begins 1 1", "turns 1", "tur 1", "cuts 1 1", "wea", "wears", "homes 1 1", "resets", "rese", "grounds", "airs", "nothings",
		"Arm", "ARM", "aRm", "GO 1", "Go 1", "Begin 1 1", "Reset", "WEAR", "Cut 1 255", "Home 1 1", "Air", "Ground", "Nothing", "Isolate 1", "Restore 1", "Turn 1", "Disarm",
		"arm;", "arm,", ";arm", "# arm", "//", "\"arm\"", "arm\x00", "\x00arm", "\x00", "\xff", "arm\xff", "\xffarm", "a\xffrm", "\xe2\x80", "\xc3\xa1rm",
		"arm\x0b", "arm\x0c", "\xc2\xa0arm", "arm\xc2\x85", "go\xc2\xa01", "go\x0b1", "go\xe2\x80\x831", "\xef\xbb\xbfarm", "\xe2\x80\xa8", "arm\xe2\x80\xa9arm",
	}
}

// badLines are lines of the kinds' words, with words behind them that may not be.
func badLines() []string {
	var out []string
	for _, k := range kinds() {
		words := strings.Fields(k)
		asks := len(words) - 1
		for n := range 5 {
			for _, number := range []string{"0", "1", "-7"} {
				if n != asks {
					out = append(out, strings.Join(append(words[:1:1], slices.Repeat([]string{number}, n)...), " "))
				}
			}
		}
		for i := range asks {
			for _, none := range []string{"x", "-", "+1", "--1", "1234567890", "1a", "\xff", "arm", "0x1", "1.0", "\x001"} {
				bad := slices.Clone(words)
				bad[i+1] = none
				out = append(out, strings.Join(bad, " "))
			}
		}
		out = append(out, k+" x", k+" arm", k+" "+words[0], "x "+k)
	}
	return out
}

// mixedLine is a line that hangs on n alone; a sample, if it is none of the others.
func mixedLine(n uint64, sample string) string {
	v := n >> 8
	switch n % 20 {
	case 0, 1, 2:
		return fmt.Sprint("go ", v%6)
	case 3, 4:
		return "arm"
	case 5:
		return of([]string{"disarm", "disarm", "go 5"}, v)
	case 6:
		return fmt.Sprint("isolate ", int(v%6)-1)
	case 7:
		return fmt.Sprint("restore ", int(v%6)-1)
	case 8:
		return fmt.Sprint("home ", int(v%190)-95, " ", int(v>>10%370)-185)
	case 9:
		return of([]string{"reset", "reset", "nothing", "wear"}, v)
	case 10:
		return of([]string{"reset", fmt.Sprint("turn ", int(v>>4%2000)-20)}, v)
	case 11, 12:
		op := of([]int{1, 1, 4, 5, 0, 2, 3, 1, 6, -1}, v)
		return fmt.Sprint("cut ", op, " ", of([]int{255, 0, 231, -1, 230, int(v>>8%2000) - 1000}, v>>4))
	case 13:
		return of(noLines(), v)
	case 14:
		return of(badLines(), v)
	case 15:
		if v%8 == 0 {
			return fmt.Sprint("begin ", int(v>>4%15)-1, " ", of([]int{1000, 99, 5, 3, 1, 0, -1, 1001}, v>>8))
		}
	}
	return sample
}

// spaced is a line with other blanks between its words, ahead of the first one, and behind the last one.
func spaced(line string, n uint64) string {
	blanks := []string{" ", " ", "\t", "  ", "\r", " \t\r ", "\r\r"}
	around := []string{"", "", " ", "\r", "\t\t"}
	words := strings.Split(line, " ")
	out := of(around, n) + words[0]
	for i, w := range words[1:] {
		out += of(blanks, n>>(8+3*i)) + w
	}
	return out + of(around, n>>4)
}

// mixedScript is n lines that hang on seed alone, with some that have no words among them.
func mixedScript(n int, seed uint64) string {
	var out []string
	for i := range uint64(n) {
		v := mixed(seed<<12 | i)
		out = append(out, spaced(mixedLine(v, of([]string{"ground", "air"}, seed+i/15)), v>>32))
		if v>>60 == 0 {
			out = append(out, of([]string{"", " ", "\r", "\t \r", ""}, v>>50))
		}
	}
	if seed%2 == 0 {
		out = append(out, "")
	}
	return lines(out...)
}

// mixedText is n bytes that hang on seed alone: some of all kinds, and pieces of lines.
func mixedText(n int, seed uint64) string {
	pieces := append(kinds(), "\n", "\n", "\n", " ", "\r\n", "\t", "1", "-", "0", "arm", "go", "cut", "x", "\x00", "\xff", "\xc2\xa0")
	out := ""
	for i := uint64(0); len(out) < n; i++ {
		v := mixed(seed<<16 | i | 1<<50)
		if v%3 == 0 {
			out += string([]byte{byte(v >> 8)})
		} else {
			out += of(pieces, v>>8)
		}
	}
	return out[:n]
}

// pool is states with and without each of their parts; some of them are not legal.
func pool() []state.State {
	var out []state.State
	for flags := range 4 {
		for _, n := range append(far(), 0, 1, -1, 5, 10, 737280, -1474560) {
			s := state.State{Armed: flags&1 > 0, Home: flags&2 > 0}
			for field := range 5 {
				t := s
				*[]*int{&t.Mode, &t.Lat, &t.Lon, &t.Iso, &t.Mode}[field] = n
				if field == 4 {
					t.Lat, t.Lon, t.Iso = n, -n, n
				}
				out = append(out, t)
			}
		}
	}
	return out
}

// checkLines tells where a text's replies are others than the oracle's.
func checkLines(t *testing.T, s string) {
	t.Helper()
	want, _ := replies(s)
	if got := Lines(s); !slices.Equal(got, want) {
		t.Fatalf("Lines of %q:\n%q, not\n%q", s, got, want)
	}
}

// checkSaid is checkLines, where the last replies of both are these.
func checkSaid(t *testing.T, s string, last ...string) {
	t.Helper()
	checkLines(t, s)
	got := Lines(s)
	if len(got) < len(last) || !slices.Equal(got[len(got)-len(last):], last) {
		t.Fatalf("Lines of %q:\n%q, not at last\n%q", s, got, last)
	}
}

// checkAll is checkSaid, where there are no other replies.
func checkAll(t *testing.T, s string, all ...string) {
	t.Helper()
	checkSaid(t, s, all...)
	if got := Lines(s); len(got) != len(all) {
		t.Fatalf("Lines of %q:\n%q, not\n%q", s, got, all)
	}
}

// P23.1

func checkNumber(t *testing.T, s string) {
	t.Helper()
	want, wantIs := numberOf(s)
	if got, is := Number(s); got != want || is != wantIs {
		t.Fatalf("Number of %q: %d, %t", s, got, is)
	}
}

func TestNumberOfKnown(t *testing.T) {
	for s, want := range map[string]int{
		"0": 0, "1": 1, "9": 9, "-1": -1, "-9": -9, "-0": 0, "10": 10, "007": 7, "-007": -7, "00": 0, "-00": 0,
		"12": 12, "-12": -12, "123456789": 123456789, "-123456789": -123456789, "999999999": 999999999, "-999999999": -999999999,
		"000000000": 0, "-000000000": 0, "000000001": 1, "-000000001": -1, "100000000": 100000000, "987654321": 987654321,
	} {
		if got, is := Number(s); got != want || !is {
			t.Errorf("Number of %q: %d, %t", s, got, is)
		}
		checkNumber(t, s)
	}
}

func TestNumberOfOtherTexts(t *testing.T) {
	for _, s := range noNumbers() {
		if got, is := Number(s); got != 0 || is {
			t.Errorf("Number of %q: %d, %t", s, got, is)
		}
		checkNumber(t, s)
	}
}

func TestNumberOfEachLength(t *testing.T) {
	for n := range 25 {
		for digit := byte('0'); digit <= '9'; digit++ {
			for _, s := range []string{same(n, digit), "-" + same(n, digit), "1" + same(n, digit), "-0" + same(n, digit), "0" + same(n, digit), same(n, digit) + "-", "--" + same(n, digit), "+" + same(n, digit)} {
				checkNumber(t, s)
			}
		}
	}
}

func TestNumberOfEachByte(t *testing.T) {
	for b := range 256 {
		c := string([]byte{byte(b)})
		for _, s := range []string{c, "-" + c, "1" + c, c + "1", "1" + c + "1", "-1" + c, c + "-1", "12345678" + c, "123456789" + c, c + "123456789", "-12345678" + c} {
			checkNumber(t, s)
		}
	}
}

func TestNumberOfAllShortTexts(t *testing.T) {
	texts := []string{""}
	for range 5 {
		var longer []string
		for _, s := range texts {
			checkNumber(t, s)
			for _, c := range "-+0179 a" {
				longer = append(longer, s+string(c))
			}
		}
		texts = longer
	}
}

func TestNumberOfNumbersAsTexts(t *testing.T) {
	for seed := range uint64(3000) {
		n := int(mixed(seed)>>(seed%60)) * (1 - 2*int(seed%2))
		checkNumber(t, strconv.Itoa(n))
		checkNumber(t, "0"+strconv.Itoa(n))
	}
	for n := 1; n <= 10000000000; n *= 10 {
		for near := n - 2; near <= n+2; near++ {
			checkNumber(t, strconv.Itoa(near))
			checkNumber(t, strconv.Itoa(-near))
		}
	}
}

func TestTextOfKnown(t *testing.T) {
	for _, c := range []struct {
		s    state.State
		want string
	}{
		{state.State{}, "mode 0 iso 0"},
		{state.State{Mode: 3}, "mode 3 iso 0"},
		{state.State{Armed: true}, "mode 0 armed iso 0"},
		{state.State{Home: true}, "mode 0 home 0 0 iso 0"},
		{state.State{Iso: 15}, "mode 0 iso 15"},
		{state.State{Mode: 1, Armed: true, Iso: 9}, "mode 1 armed iso 9"},
		{state.State{Mode: 5, Home: true, Lat: -1, Lon: 8192}, "mode 5 home -1 8192 iso 0"},
		{state.State{Mode: 4, Armed: true, Home: true, Lat: -737280, Lon: -1474560, Iso: 10}, "mode 4 armed home -737280 -1474560 iso 10"},
		// A place that is not set is not told.
		{state.State{Mode: 2, Lat: 7, Lon: 8}, "mode 2 iso 0"},
		{state.State{Mode: -1, Iso: math.MinInt}, "mode -1 iso -9223372036854775808"},
		{state.State{Mode: math.MaxInt, Home: true, Lat: math.MinInt, Lon: math.MaxInt, Iso: -12}, "mode 9223372036854775807 home -9223372036854775808 9223372036854775807 iso -12"},
	} {
		if got := Text(c.s); got != c.want || textOf(c.s) != c.want {
			t.Errorf("Text of %+v: %q", c.s, got)
		}
	}
}

func TestTextOfAllParts(t *testing.T) {
	for _, s := range pool() {
		if got := Text(s); got != textOf(s) {
			t.Errorf("Text of %+v: %q", s, got)
		}
	}
	for n := -1100; n <= 1100; n++ {
		s := state.State{Mode: n, Home: true, Lat: -n, Lon: n * 1000, Iso: n + 1}
		if got := Text(s); got != textOf(s) {
			t.Errorf("Text of %+v: %q", s, got)
		}
	}
}

// P23.2

func TestNoLines(t *testing.T) {
	for _, s := range []string{"", "\n", "\n\n\n", " ", "\t", "\r", " \t\r", "\r\n", "\r\n\r\n", " \n\t\n\r\n \t\r\n", same(600, '\n'), same(600, ' '), same(600, 9), same(600, 13)} {
		if got := Lines(s); len(got) != 0 {
			t.Errorf("Lines of %q: %q", s, got)
		}
		checkLines(t, s)
	}
}

func TestLinesOfTheExamples(t *testing.T) {
	// The chapter's, which is the document's sixth one.
	checkAll(t, "arm", "error 25 mode 0 iso 0")
	// The second one: which ops there are is told by where the power can go.
	for state, ops := range []int{5, 2, 2, 5} {
		ahead := append([]string{"begin 3 100"}, []string{"home 0 0", "home 0 1", "home 0 2"}[:state]...)
		wear := fmt.Sprint("wear ", []int{1, 1, 1, 2}[state])
		next := fmt.Sprint("home 0 ", state)
		for op := range ops {
			s := lines(append(ahead, fmt.Sprint("cut ", op, " 0"), next)...)
			got := Lines(s)
			checkSaid(t, s, got[len(got)-1])
			if !strings.HasPrefix(got[len(got)-1], "error 26 ") {
				t.Errorf("state %d, cut at %d: %q", state, op, got)
			}
		}
		s := lines(append(ahead, fmt.Sprint("cut ", ops, " 0"), next, "wear")...)
		checkSaid(t, s, "ok", fmt.Sprint("hold mode 0 home 0 ", 8192*state, " iso 0"), wear)
	}
	// The third one: the slot whose mark was not written is skipped, so that the second slot is the last one of the bank.
	two := lines("begin 2 100", "isolate 0", "cut 1 0", "isolate 1", "reset")
	checkSaid(t, two, "ok", "error 26 mode 0 iso 1", "hold mode 0 iso 1")
	checkSaid(t, lines(two, "wear", "isolate 1", "wear"), "wear 1", "hold mode 0 iso 3", "wear 2")
	checkSaid(t, lines("begin 2 100", "isolate 0", "isolate 1", "wear"), "hold mode 0 iso 3", "wear 1")
	// The fourth one.
	auto := lines(stands(), "home 1 2", "arm", "go 3", "reset")
	checkSaid(t, auto, "run mode 3 armed home 8192 16384 iso 0", "hold mode 3 armed home 8192 16384 iso 0")
	checkSaid(t, lines(auto, flies()), "hold mode 3 armed home 8192 16384 iso 0", "run mode 3 armed home 8192 16384 iso 0")
	checkSaid(t, lines(auto, stands()), "hold mode 3 armed home 8192 16384 iso 0", "run mode 0 home 8192 16384 iso 0")
	// The fifth one, of degrees that are whole.
	checkAll(t, "home 1 -2", "hold mode 0 home 8192 -16384 iso 0")
}

func TestLinesOfAFlight(t *testing.T) {
	checkAll(t, lines(
		"wear", "go 1", "disarm", "home 90 -180", "wear", "ground", "nothing", "ground", "air", "ground", "ground", "ground", "wear",
		"go 0", "go 2", "disarm", "arm", "arm", "go 0", "go 3", "go 0", "go 1", "go 4", "go 5", "disarm", "wear",
	),
		"wear 0", "error 25 mode 0 iso 0", "error 25 mode 0 iso 0", "hold mode 0 home 737280 -1474560 iso 0", "wear 1",
		"hold mode 0 home 737280 -1474560 iso 0", "hold mode 0 home 737280 -1474560 iso 0", "hold mode 0 home 737280 -1474560 iso 0", "hold mode 0 home 737280 -1474560 iso 0",
		"hold mode 0 home 737280 -1474560 iso 0", "hold mode 0 home 737280 -1474560 iso 0", "run mode 0 home 737280 -1474560 iso 0", "wear 1",
		"run mode 0 home 737280 -1474560 iso 0", "error 20 mode 0 home 737280 -1474560 iso 0", "error 22 mode 0 home 737280 -1474560 iso 0",
		"run mode 1 armed home 737280 -1474560 iso 0", "error 21 mode 1 armed home 737280 -1474560 iso 0", "error 21 mode 1 armed home 737280 -1474560 iso 0",
		"run mode 3 armed home 737280 -1474560 iso 0", "error 20 mode 3 armed home 737280 -1474560 iso 0", "run mode 1 armed home 737280 -1474560 iso 0", "run mode 4 armed home 737280 -1474560 iso 0",
		"run mode 5 armed home 737280 -1474560 iso 0", "run mode 0 home 737280 -1474560 iso 0", "wear 2",
	)
}

func TestLinesOfSensors(t *testing.T) {
	checkAll(t, lines("isolate 3", "isolate 3", "isolate 1", "isolate 4", "isolate -1", "restore 4", "restore -1", "restore 0", stands(), "isolate 0", "arm", "restore 3", "arm", "isolate 2", "isolate 3", "isolate 1"),
		"hold mode 0 iso 8", "hold mode 0 iso 8", "hold mode 0 iso 10", "error 1 mode 0 iso 10", "error 1 mode 0 iso 10", "error 1 mode 0 iso 10", "error 1 mode 0 iso 10", "hold mode 0 iso 10",
		"hold mode 0 iso 10", "hold mode 0 iso 10", "run mode 0 iso 10", "run mode 0 iso 11", "error 24 mode 0 iso 11", "run mode 0 iso 3", "run mode 1 armed iso 3",
		"run mode 1 armed iso 7", "error 24 mode 1 armed iso 7", "run mode 1 armed iso 7")
}

func TestLinesOfHomes(t *testing.T) {
	for _, c := range []struct{ a, b, said string }{
		{"0", "0", "hold mode 0 home 0 0 iso 0"},
		{"-0", "-0", "hold mode 0 home 0 0 iso 0"},
		{"90", "180", "hold mode 0 home 737280 1474560 iso 0"},
		{"-90", "-180", "hold mode 0 home -737280 -1474560 iso 0"},
		{"090", "-000000180", "hold mode 0 home 737280 -1474560 iso 0"},
		{"91", "0", "error 13 mode 0 iso 0"},
		{"-91", "0", "error 13 mode 0 iso 0"},
		{"0", "181", "error 13 mode 0 iso 0"},
		{"0", "-181", "error 13 mode 0 iso 0"},
		{"999999999", "-999999999", "error 13 mode 0 iso 0"},
		{"180", "90", "error 13 mode 0 iso 0"},
	} {
		checkAll(t, "home "+c.a+" "+c.b, c.said)
	}
	for a := -93; a <= 93; a++ {
		checkLines(t, lines(fmt.Sprint("home ", a, " ", -a), fmt.Sprint("home 7 ", a*2), fmt.Sprint("home ", a/2, " ", a*2+1)))
	}
}

func TestLinesOfSamples(t *testing.T) {
	// Those that say nothing do not count, and those of the other kind begin anew.
	checkAll(t, lines("nothing", "nothing", "nothing", "air", "air", "nothing", "ground", "air", "air", "nothing", "air", "nothing", "air"),
		slices.Concat(slices.Repeat([]string{"hold mode 0 iso 0"}, 10), []string{"run mode 2 armed iso 0", "run mode 2 armed iso 0", "run mode 2 armed iso 0"})...)
	checkAll(t, stands(), "hold mode 0 iso 0", "hold mode 0 iso 0", "run mode 0 iso 0")
	checkAll(t, flies(), "hold mode 0 iso 0", "hold mode 0 iso 0", "run mode 2 armed iso 0")
	for n := range 243 {
		var l []string
		for i := range 5 {
			l = append(l, []string{"air", "ground", "nothing"}[n/[]int{1, 3, 9, 27, 81}[i]%3])
		}
		checkLines(t, lines(l...))
	}
}

func TestWhatTheFlightBeginsWith(t *testing.T) {
	// A bank of four slots takes four states.
	for n, want := range []string{"wear 0", "wear 1", "wear 1", "wear 1", "wear 1", "wear 2", "wear 2", "wear 2", "wear 2", "wear 3"} {
		checkSaid(t, lines(append(strings.Split("isolate 0\nrestore 0\nisolate 0\nrestore 0\nisolate 0\nrestore 0\nisolate 0\nrestore 0\nisolate 0", "\n")[:n], "wear")...), want)
	}
	// Two banks, erased 100 times each.
	full := times(400, "isolate 0", "restore 0")
	checkSaid(t, lines(full, "wear"), "hold mode 0 iso 0", "wear 200")
	checkSaid(t, lines(full, "isolate 0", "wear", "arm", "nothing", "reset"), "error 26 mode 0 iso 0", "wear 200", "error 26 mode 0 iso 0", "failed mode 0 iso 0", "hold mode 0 iso 0")
	// It is as if it had begun so by a line, but for the reply.
	for seed := range uint64(40) {
		s := mixedScript(40, seed+700)
		if got := Lines(lines("begin 4 100", s)); got[0] != "hold mode 0 iso 0" || !slices.Equal(got[1:], Lines(s)) {
			t.Fatalf("%q: %q", s, got)
		}
	}
}

func TestBegin(t *testing.T) {
	// A new flight in the midst of another one.
	checkAll(t, lines(flies(), "isolate 2", "begin 1 3", "wear", "go 1", "ground", "isolate 0", "isolate 1", "wear", "begin 4 100", "wear"),
		"hold mode 0 iso 0", "hold mode 0 iso 0", "run mode 2 armed iso 0", "run mode 2 armed iso 4", "hold mode 0 iso 0", "wear 0", "error 25 mode 0 iso 0",
		"hold mode 0 iso 0", "hold mode 0 iso 1", "hold mode 0 iso 3", "wear 2", "hold mode 0 iso 0", "wear 0")
	// A sample that was seen ahead of it does not count.
	checkSaid(t, lines("air", "air", "begin 2 2", "air", "air"), "hold mode 0 iso 0", "hold mode 0 iso 0")
	// The bytes of a bank are those of its slots.
	checkSaid(t, lines("begin 2 2", "isolate 0", "isolate 1", "wear", "isolate 2", "wear"), "hold mode 0 iso 3", "wear 1", "hold mode 0 iso 7", "wear 2")
	checkSaid(t, lines("begin 12 2", "isolate 0", "isolate 1", "wear", "isolate 2", "wear"), "hold mode 0 iso 3", "wear 1", "hold mode 0 iso 7", "wear 1")
	// Limits, and slots, of which nothing can be written.
	for _, s := range []string{"begin 4 0", "begin 0 9", "begin 13 9", "begin -1 9", "begin 4 -1", "begin 4 1001", "begin 0 0", "begin 999999999 -999999999"} {
		checkAll(t, lines(s, "reset", "isolate 0", "go 1", "air", "reset", "nothing"),
			"hold mode 0 iso 0", "hold mode 0 iso 0", "error 26 mode 0 iso 0", "error 26 mode 0 iso 0", "failed mode 0 iso 0", "hold mode 0 iso 0", "hold mode 0 iso 0")
	}
	for slots := -2; slots < 27; slots++ {
		for _, limit := range []int{-999999999, -1, 0, 1, 2, 3, 99, 1000, 1001, 999999999} {
			begin := fmt.Sprint("begin ", slots, " ", limit)
			checkLines(t, lines("home 1 1", begin, times(3, "isolate 0", "restore 0", "wear"), begin, flies(), times(14, "isolate 0", "restore 0"), "wear", "reset"))
		}
	}
}

func TestReset(t *testing.T) {
	ready := lines(stands(), "arm", "isolate 1")
	checkSaid(t, lines(ready, "reset", "go 2", "isolate 0", "wear"), "run mode 1 armed iso 2", "hold mode 1 armed iso 2", "error 25 mode 1 armed iso 2", "hold mode 1 armed iso 3", "wear 1")
	// Two samples and one are not three.
	checkSaid(t, lines(ready, "reset", "ground", "ground", "reset", "ground"), "hold mode 1 armed iso 2", "hold mode 1 armed iso 2")
	checkSaid(t, lines(ready, "reset", stands(), "reset"), "run mode 0 iso 2", "hold mode 0 iso 2")
}

func TestTurn(t *testing.T) {
	// The bits of the last record's slots: the one ahead of it is read.
	ready := lines(stands(), "arm", "go 2")
	checkSaid(t, lines(ready, fmt.Sprint("turn ", 8*3*place)), "run mode 2 armed iso 0", "hold mode 1 armed iso 0")
	checkSaid(t, lines(ready, fmt.Sprint("turn ", 8*3*place), fmt.Sprint("turn ", 8*2*place+7)), "hold mode 1 armed iso 0", "hold mode 0 iso 0")
	checkSaid(t, lines(ready, fmt.Sprint("turn ", 8*3*place), fmt.Sprint("turn ", 8*3*place)), "hold mode 1 armed iso 0", "hold mode 2 armed iso 0")
	// Bits that there are none, and those of the other bank, which is new.
	for _, at := range []int{-1, -8, -999999999, 2 * 8 * 5 * place, 999999999, 8 * 5 * place, 2*8*5*place - 1} {
		checkSaid(t, lines(ready, fmt.Sprint("turn ", at), "go 2"), "hold mode 2 armed iso 0", "error 25 mode 2 armed iso 0")
	}
	for at := -9; at < 2*8*3*place+9; at++ {
		checkLines(t, lines("begin 2 9", "isolate 0", "isolate 1", "isolate 2", "home 1 -1", fmt.Sprint("turn ", at), "restore 1", flies(), "reset"))
	}
}

func TestLinesOfNoKind(t *testing.T) {
	for _, l := range slices.Concat(noLines(), badLines()) {
		checkAll(t, l, noLine)
		// They do nothing, and what stands behind them is done.
		checkAll(t, lines("isolate 0", l, "cut 4 0", l, "wear", l, l, "home 0 1"), "hold mode 0 iso 1", noLine, "ok", noLine, "wear 1", noLine, noLine, "hold mode 0 home 0 8192 iso 1")
		checkAll(t, lines("cut 1 0", l, "isolate 0", l), "ok", noLine, "error 26 mode 0 iso 0", noLine)
		checkAll(t, lines(l, "air", l, "air", l, "air"), noLine, "hold mode 0 iso 0", noLine, "hold mode 0 iso 0", noLine, "run mode 2 armed iso 0")
	}
}

func TestWordsOfEachKind(t *testing.T) {
	for _, k := range kinds() {
		if got := Lines(k); len(got) != 1 || got[0] == noLine {
			t.Errorf("Lines of %q: %q", k, got)
		}
		checkLines(t, k)
		words := strings.Fields(k)
		for n := range words {
			short := slices.Delete(slices.Clone(words), n, n+1)
			if len(short) > 0 {
				checkAll(t, strings.Join(short, " "), noLine)
			}
			long := slices.Insert(slices.Clone(words), n+1, "1")
			checkAll(t, strings.Join(long, " "), noLine)
		}
	}
}

func TestNumbersInLines(t *testing.T) {
	for _, k := range kinds() {
		words := strings.Fields(k)
		for i := range words[1:] {
			for _, number := range slices.Concat(noNumbers(), []string{"0", "-0", "007", "-1", "1", "2", "3", "4", "5", "6", "13", "255", "1001", "999999999", "-999999999", "000000002", "-000000001"}) {
				l := slices.Clone(words)
				l[i+1] = number
				checkLines(t, lines(strings.Join(l, " "), "home 1 1", "reset"))
				checkLines(t, lines(stands(), "arm", strings.Join(l, " "), "isolate 3", "wear", "reset"))
			}
		}
	}
	checkAll(t, lines(stands(), "arm", "go 002", "isolate 000000003", "restore -0", "isolate -0"), "hold mode 0 iso 0", "hold mode 0 iso 0", "run mode 0 iso 0",
		"run mode 1 armed iso 0", "run mode 2 armed iso 0", "run mode 2 armed iso 8", "run mode 2 armed iso 8", "run mode 2 armed iso 9")
}

func TestBlanks(t *testing.T) {
	want := []string{"hold mode 0 home 8192 -16384 iso 0", noLine, "hold mode 0 home 8192 -16384 iso 2"}
	for _, s := range []string{
		"home 1 -2\nx\nisolate 1", "home 1 -2\nx\nisolate 1\n", "home 1 -2\nx\nisolate 1\n\n\n", "\n\nhome 1 -2\n\n \nx\n\t\n\r\nisolate 1", "home 1 -2\r\nx\r\nisolate 1\r\n",
		"  home 1 -2\n x\n\tisolate 1", "home 1 -2  \nx \nisolate 1\t", "home   1    -2\nx\nisolate\t1", "\thome\t1\t-2\t\n\tx\t\n\tisolate\t1\t", "\rhome\r1\r-2\r\n\rx\r\n\risolate\r1\r",
		" \t\rhome \t\r1\r\t -2 \t\r\n \t\rx\n\r\risolate \r\t 1\r \t",
	} {
		checkAll(t, s, want...)
	}
	// Bytes 10 are no blanks, and other bytes neither.
	checkAll(t, "isolate\n1", noLine, noLine)
	checkAll(t, "arm\rdisarm", noLine)
	for b := range 256 {
		c := string([]byte{byte(b)})
		for _, s := range []string{"go" + c + "1", "arm" + c, c + "arm", "a" + c + "rm", "go 1" + c, "go" + c + " 1", "go 1" + c + "2", "home 1" + c + "2", c, c + c, "go " + c, "isolate " + c + "1", c + "\n" + c + "\narm", "ar" + c + "m\narm"} {
			checkLines(t, s)
			checkLines(t, "air\nair\nair\n"+s)
		}
	}
}

// idlers are lines that are Asks and Sees, which write nothing in Run, and disarmed.
func idlers() []string {
	return []string{"go 0", "go 3", "go 9", "disarm", "restore 0", "restore 9", "isolate 9", "home 91 0", "air", "ground", "nothing"}
}

func TestCutIsForTheNextAskOrSee(t *testing.T) {
	// The op 1 of an Append writes the mark: all of its bits, or none, or some.
	begin := lines(stands(), "arm")
	gone, reads := "error 26 mode 1 armed iso 0", "hold mode 1 armed iso 0"
	for _, l := range []string{"go 2", "isolate 0", "home 1 1", "go 5"} {
		checkSaid(t, lines(begin, "cut 1 0", l, l, "air", "reset"), "ok", gone, gone, gone, reads)
		checkSaid(t, lines(begin, "cut 0 255", l, l, "nothing", "reset"), "ok", gone, gone, gone, reads)
	}
	checkSaid(t, lines(begin, "cut 1 255", "go 2", "reset", "isolate 0"), "ok", gone, "hold mode 2 armed iso 0", "hold mode 2 armed iso 1")
	checkSaid(t, lines(begin, "cut 1 255", "isolate 3", "reset", "isolate 0"), "ok", gone, "hold mode 1 armed iso 8", "hold mode 1 armed iso 9")
	// An op that the plan has not.
	for _, op := range []string{"2", "3", "-1", "-2", "-999999999", "999999999", "300"} {
		checkSaid(t, lines(begin, "cut "+op+" 255", "go 2", "isolate 0"), "ok", "run mode 2 armed iso 0", "run mode 2 armed iso 1")
	}
	// A See that writes.
	checkAll(t, lines("air", "air", "cut 3 0", "air", "air", "reset"), "hold mode 0 iso 0", "hold mode 0 iso 0", "ok", "error 26 mode 0 iso 0", "error 26 mode 0 iso 0", "hold mode 0 iso 0")
	checkAll(t, lines("air", "air", "cut 4 255", "air", "air", "reset"), "hold mode 0 iso 0", "hold mode 0 iso 0", "ok", "error 26 mode 0 iso 0", "error 26 mode 0 iso 0", "hold mode 2 armed iso 0")
	checkAll(t, lines("cut 3 0", "air", "air", "air"), "ok", "hold mode 0 iso 0", "hold mode 0 iso 0", "run mode 2 armed iso 0")
}

func TestCutIsForThatLineAlone(t *testing.T) {
	ready := stands()
	for _, l := range idlers() {
		// What writes nothing takes the cut all the same.
		s := lines(ready, "cut 0 0", l, "arm", "isolate 1")
		checkSaid(t, s, "run mode 1 armed iso 0", "run mode 1 armed iso 2")
		checkSaid(t, lines(ready, "cut 1 255", l, l, "arm", "cut 1 231", "go 2", "reset"), "run mode 1 armed iso 0", "ok", "error 26 mode 1 armed iso 0", "hold mode 2 armed iso 0")
	}
	for _, l := range []string{"go 2", "arm", "disarm"} {
		checkAll(t, lines("cut 0 0", l, "isolate 0"), "ok", "error 25 mode 0 iso 0", "hold mode 0 iso 1")
	}
	// Also where the power is off, or the journal has failed.
	checkAll(t, lines("cut 0 0", "isolate 0", "cut 0 0", "isolate 0", "reset", "isolate 0"), "ok", "error 26 mode 0 iso 0", "ok", "error 26 mode 0 iso 0", "hold mode 0 iso 0", "hold mode 0 iso 1")
	checkAll(t, lines("cut 0 0", "isolate 0", "cut 0 0", "air", "reset", "isolate 0"), "ok", "error 26 mode 0 iso 0", "ok", "error 26 mode 0 iso 0", "hold mode 0 iso 0", "hold mode 0 iso 1")
}

func TestCutBehindOtherLines(t *testing.T) {
	for _, l := range slices.Concat([]string{"reset", "turn -1", "turn 999999999", "wear", "begin 4 100", "begin 12 1000", "begin 1 1", "", "\n\n", " \r\t", "wear\nreset\nturn -8\nbegin 2 2\nx\n\nbegin x"}, noLines(), badLines()) {
		want := slices.Concat([]string{"ok"}, Lines(l), []string{"error 26 mode 0 iso 0", "hold mode 0 iso 0", "hold mode 0 iso 4"})
		checkAll(t, lines("cut 3 0", l, "isolate 1", "reset", "isolate 2"), want...)
	}
	// Another one takes the place of the first.
	checkAll(t, lines("cut 0 0", "cut 9 0", "isolate 1"), "ok", "ok", "hold mode 0 iso 2")
	checkAll(t, lines("cut 0 0", "cut -1 0", "reset", "isolate 1", "isolate 2"), "ok", "ok", "hold mode 0 iso 0", "hold mode 0 iso 2", "hold mode 0 iso 6")
	checkAll(t, lines("cut 9 0", "wear", "cut 0 0", "isolate 1"), "ok", "wear 0", "ok", "error 26 mode 0 iso 0")
	checkAll(t, lines("cut 4 0", "cut 4 255", "isolate 1", "reset"), "ok", "ok", "error 26 mode 0 iso 0", "hold mode 0 iso 2")
	checkAll(t, lines("cut 4 255", "cut 4 0", "isolate 1", "reset"), "ok", "ok", "error 26 mode 0 iso 0", "hold mode 0 iso 0")
	// One that is no cut does not.
	checkAll(t, lines("cut 4 255", "cut 9", "cut 9 x", "cut", "isolate 1", "reset"), "ok", noLine, noLine, noLine, "error 26 mode 0 iso 0", "hold mode 0 iso 2")
}

func TestMasksOfCuts(t *testing.T) {
	// A mark is written whole just if the mask has all bits of 165 and of 195.
	for mask := -1100; mask <= 1100; mask++ {
		low := byte(mask)
		want := "hold mode 0 iso 1"
		if low&231 == 231 {
			want = "hold mode 0 iso 3"
		}
		checkSaid(t, lines("isolate 0", fmt.Sprint("cut 1 ", mask), "isolate 1", "reset"), "ok", "error 26 mode 0 iso 1", want)
	}
	for _, mask := range []int{255, -1, 511, -257, 231, 487, -25, 999999975, 999999999, -769} {
		checkSaid(t, lines(fmt.Sprint("cut 4 ", mask), "home 1 1", "reset"), "hold mode 0 home 8192 8192 iso 0")
	}
	for _, mask := range []int{0, 256, -256, 254, -2, 230, 199, 165, 195, 512, -999999999} {
		checkSaid(t, lines(fmt.Sprint("cut 4 ", mask), "home 1 1", "reset"), "hold mode 0 iso 0")
	}
}

func TestCutsAtEachOp(t *testing.T) {
	fills := func(n int) string {
		return lines(append([]string{"begin 2 9"}, strings.Split("isolate 0\nisolate 1\nrestore 0\nhome 1 1\nisolate 3\nrestore 3", "\n")[:n]...)...)
	}
	for n := range 7 {
		for op := -1; op < 8; op++ {
			for _, mask := range []int{255, 0, 1, 254, 165, 231, 127, 90, -1, 256} {
				cut := fmt.Sprint("cut ", op, " ", mask)
				checkLines(t, lines(fills(n), cut, "isolate 2", "reset", "isolate 0", "wear", cut, "home 2 2", "reset", "restore 0", "wear", flies()))
				checkLines(t, lines(fills(n), "air", "air", cut, "air", "reset", "isolate 0", "wear", stands()))
			}
		}
	}
}

// banksOf are the banks behind a text.
func banksOf(s string) [2]string {
	_, f := replies(s)
	return f.x.F.Banks
}

// turns are lines that turn each bit by which two pairs of banks differ.
func turns(from, to [2]string) string {
	var out []string
	old, young := from[0]+from[1], to[0]+to[1]
	for i := range len(old) {
		for bit := range 8 {
			if (old[i]^young[i])>>bit&1 == 1 {
				out = append(out, fmt.Sprint("turn ", 8*i+bit))
			}
		}
	}
	return lines(out...)
}

func TestMasksHave300Bytes(t *testing.T) {
	// Both banks of 12 slots are full when the first one is erased, but for what stands behind the mask's end: the second half of its last slot.
	full := []string{"begin 12 100"}
	for i := range 24 {
		full = append(full, fmt.Sprint("home 1 ", i))
	}
	torn := lines(append(full, "cut 1 255", "isolate 0")...)
	old, young, left := banksOf(lines(full...)), banksOf(lines(append(full, "isolate 0")...)), banksOf(torn)
	blank := flash.New(13*place, 0).Banks[0]
	if left != [2]string{blank[:300] + old[0][300:], old[1]} {
		t.Fatalf("the oracle's banks: %q", left)
	}
	// The first half of that slot, and a header that is younger than the other bank's, are written by turns.
	mended := [2]string{young[0][:place] + blank[place:12*place] + old[0][12*place:], old[1]}
	checkSaid(t, lines(torn, turns(left, mended)), "hold mode 0 home 8192 90112 iso 0")
}

func TestSaidOfEachPhase(t *testing.T) {
	// Off is never said without an error: nothing but a restart is, behind a cut.
	for phase, want := range []string{"hold", "run", "failed", "off"} {
		if got := said(script.Reply{Phase: phase}); got != want+" "+blankState {
			t.Errorf("phase %d: %q", phase, got)
		}
		if got := said(script.Reply{Phase: phase, E: 26, S: state.State{Iso: 3}}); got != "error 26 mode 0 iso 3" {
			t.Errorf("phase %d, with an error: %q", phase, got)
		}
	}
	checkAll(t, lines("begin 1 1", "isolate 0", "isolate 1", "isolate 2", "air", "arm", "reset", "cut 0 0", "isolate 3"),
		"hold mode 0 iso 0", "hold mode 0 iso 1", "hold mode 0 iso 3", "error 26 mode 0 iso 3", "failed mode 0 iso 3", "error 26 mode 0 iso 3", "hold mode 0 iso 3", "ok", "error 26 mode 0 iso 3")
}

func TestLinesOfMixedScripts(t *testing.T) {
	heads := map[string]int{}
	for seed := range uint64(800) {
		s := mixedScript(60, seed)
		checkLines(t, s)
		for _, r := range Lines(s) {
			words := strings.Fields(r)
			head := words[0]
			if head == "error" {
				head += " " + words[1]
			}
			heads[head]++
		}
	}
	for _, head := range []string{"hold", "run", "failed", "ok", "wear", "error 1", "error 13", "error 20", "error 21", "error 22", "error 23", "error 24", "error 25", "error 26", noLine} {
		if heads[head] < 20 {
			t.Errorf("%s was replied %d times", head, heads[head])
		}
		delete(heads, head)
	}
	if len(heads) > 0 {
		t.Errorf("these were replied, too: %v", heads)
	}
}

func TestLinesOfMoreLines(t *testing.T) {
	for seed := range uint64(4) {
		checkLines(t, mixedScript(3000, seed+3000))
	}
}

func TestLinesOfMixedTexts(t *testing.T) {
	for seed := range uint64(2000) {
		checkLines(t, mixedText(int(mixed(seed)%601), seed))
	}
	for seed := range uint64(200) {
		s := []byte(mixedText(600, seed))
		for i := range s {
			s[i] = byte(mixed(seed<<20 | uint64(i)))
		}
		checkLines(t, string(s))
	}
}

func TestLongWords(t *testing.T) {
	for _, n := range []int{10, 600, 100000} {
		checkAll(t, same(n, 'a'), noLine)
		checkAll(t, "isolate "+same(n, '0'), noLine)
		checkAll(t, "arm"+same(n, ' ')+"\n"+same(n, '\n')+same(n, '\t')+"wear", "error 25 mode 0 iso 0", "wear 0")
		checkAll(t, strings.Repeat("1 ", n), noLine)
		checkAll(t, "home"+strings.Repeat(" 1", n), noLine)
	}
}

// P23.3

// worded is how many lines of s have a word, by the bytes alone.
func worded(s string) int {
	n, has := 0, false
	for _, b := range []byte(s) {
		switch b {
		case 10:
			has = false
		case 9, 13, 32:
		default:
			if !has {
				n++
			}
			has = true
		}
	}
	return n
}

func TestAsManyRepliesAsLinesThatHaveAWord(t *testing.T) {
	texts := []string{"", "\n", " ", "arm", "arm\n", "\narm", "arm\n\narm", "x\ny\nz", "\x00", "\xff\n\xff", "arm\r\narm\r\n", "\v\n\f", "\xc2\xa0\n\xc2\x85\n\xe2\x80\xa8", "arm arm arm"}
	for seed := range uint64(1000) {
		texts = append(texts, mixedText(int(mixed(seed)%601), seed+10000), mixedScript(30, seed+10000))
	}
	for _, s := range texts {
		got := Lines(s)
		if len(got) != worded(s) {
			t.Fatalf("%q: %d replies, of %d lines", s, len(got), worded(s))
		}
		if slices.Contains(got, "") {
			t.Fatalf("%q: %q", s, got)
		}
	}
}

func TestAnswersAreAlikeAndNew(t *testing.T) {
	for seed := range uint64(60) {
		s := mixedScript(60, seed+20000)
		a, b := Lines(s), Lines(s)
		if !slices.Equal(a, b) {
			t.Fatalf("%q: %q and %q", s, a, b)
		}
		for i := range b {
			b[i] = "changed"
		}
		_ = append(b[:0], "more")
		if c := Lines(s); !slices.Equal(a, c) {
			t.Fatalf("%q: %q and %q", s, a, c)
		}
	}
}

func TestRepliesHangOnNoLaterLine(t *testing.T) {
	for seed := range uint64(30) {
		l := strings.Split(mixedScript(60, seed+30000), "\n")
		all := Lines(lines(l...))
		for n := range l {
			got := Lines(lines(l[:n]...))
			if len(got) > len(all) || !slices.Equal(got, all[:len(got)]) {
				t.Fatalf("%q: %q", l[:n], got)
			}
		}
	}
}
