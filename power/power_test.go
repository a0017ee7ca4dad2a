package power

import (
	"math"
	"slices"
	"strings"
	"testing"

	"dogwatch/api"
	"dogwatch/clear"
	"dogwatch/flash"
)

// mixed is a text of n bytes that hangs on seed alone.
func mixed(n int, seed uint32) string {
	out := make([]byte, n)
	for i := range out {
		seed = seed*1664525 + 1013904223
		out[i] = byte(seed >> 24)
	}
	return string(out)
}

// same is n times the byte b.
func same(n int, b byte) string {
	return strings.Repeat(string([]byte{b}), n)
}

// flashes are new ones, worn ones, and such as flash.New never makes: banks of two sizes, odd ones, longer ones, and odd counts.
func flashes() []flash.Flash {
	return []flash.Flash{
		{},
		flash.New(0, 1),
		flash.New(6, 0),
		flash.New(72, 1000),
		{Banks: [2]string{mixed(6, 1), mixed(8, 2)}, Erases: [2]int{1, 2}, Limit: 2},
		{Banks: [2]string{mixed(5, 3), ""}, Erases: [2]int{0, 7}, Limit: 3},
		{Banks: [2]string{mixed(24, 4), mixed(25, 5)}, Erases: [2]int{-3, math.MinInt}, Limit: -2},
		{Banks: [2]string{mixed(400, 6), same(400, 0)}, Erases: [2]int{999, 1000}, Limit: 1000},
		{Banks: [2]string{same(399, 0), mixed(410, 7)}, Limit: 1},
		{Banks: [2]string{"\xc3\xa9\x00\xff", "\xff\xfe"}, Erases: [2]int{math.MaxInt, math.MaxInt - 1}, Limit: math.MaxInt},
	}
}

// noKinds are numbers that no kind has, some of which are 1 or 2 in fewer bits.
func noKinds() []int {
	return []int{math.MinInt, math.MinInt + 1, -256, -2, -1, 0, 3, 4, 257, 258, 1<<32 + 1, 1<<32 + 2, math.MaxInt}
}

// ops are such as do well on most flashes, such as do well on few, and such as go wrong.
func ops() []Op {
	out := []Op{
		{},
		{Kind: 3, Data: "\x00\x00"},
		{Kind: Program, Bank: 2},
		{Kind: Erase, Bank: -1},
		{Kind: Erase, Bank: 0, At: 1, Data: "\x00"},
		{Kind: Erase, Bank: 1, At: math.MinInt, Data: mixed(500, 10)},
		{Kind: Program, Bank: 0, At: math.MaxInt, Data: "\x00\x00"},
		{Kind: Program, Bank: 1, At: 0, Data: mixed(400, 11)},
	}
	for bank := range 2 {
		out = append(out, Op{Kind: Erase, Bank: bank})
		for at := -1; at < 7; at++ {
			for n := range 5 {
				out = append(out, Op{Kind: Program, Bank: bank, At: at, Data: mixed(n, uint32(at+n))})
			}
		}
	}
	return out
}

// masks are empty, shorter and longer than data and banks, of odd bytes, of even ones, and of both.
func masks() []string {
	out := []string{"", "\x01", "\xfe", "\xff\x00", "\x00\xff\x00", "\x81\x7e\x81\x7e"}
	for _, n := range []int{1, 2, 4, 6, 24, 72, 399, 400, 401, 500} {
		out = append(out, same(n, 0), same(n, 255), same(n, 1), same(n, 254), mixed(n, uint32(n)))
	}
	return out
}

// done is what P4.1 says of Do.
func done(f flash.Flash, o Op) (flash.Flash, api.Errno) {
	if o.Kind == 1 {
		return flash.Program(f, o.Bank, o.At, o.Data)
	}
	if o.Kind == 2 {
		return flash.Erase(f, o.Bank)
	}
	return f, api.ErrArg
}

// torn is what P4.2 says of Tear, byte by byte.
func torn(f flash.Flash, o Op, mask string) (flash.Flash, api.Errno) {
	if _, err := done(f, o); err != api.OK {
		return f, err
	}
	out := []byte(f.Banks[o.Bank])
	for i := range min(len(mask), len(out)) {
		if o.Kind == 2 && mask[i]&1 == 1 {
			out[i] = 255
		}
		if o.Kind == 1 && i < len(o.Data) {
			out[o.At+i] &^= mask[i] &^ o.Data[i]
		}
	}
	f.Banks[o.Bank] = string(out)
	if o.Kind == 2 {
		f.Erases[o.Bank]++
	}
	return f, api.OK
}

// played is what P4.3 says of Play: of the first op, and then of the others.
func played(f flash.Flash, l []Op, cut int, mask string) (flash.Flash, int, api.Errno) {
	if len(l) == 0 {
		return f, 0, api.OK
	}
	if cut == 0 {
		f, err := torn(f, l[0], mask)
		return f, 0, err
	}
	f, err := done(f, l[0])
	if err != api.OK {
		return f, 0, err
	}
	f, n, err := played(f, l[1:], cut-1, mask)
	return f, n + 1, err
}

// P4.1

func TestKinds(t *testing.T) {
	if Program != 1 || Erase != 2 {
		t.Errorf("Program is %d, Erase is %d", Program, Erase)
	}
}

func TestDoOfKnown(t *testing.T) {
	f := flash.Flash{Banks: [2]string{"\xf0\xf0\xff\xff", "\x12\x34\x56"}, Erases: [2]int{1, 2}, Limit: 3}
	for _, x := range []struct {
		o      Op
		comes  string // what becomes of the op's bank, if it does not go wrong
		erases int    // how often that was erased then
		err    api.Errno
	}{
		{Op{1, 0, 0, "\x0f\x0f"}, "\x00\x00\xff\xff", 1, api.OK},
		{Op{1, 0, 2, "\x0f\x80"}, "\xf0\xf0\x0f\x80", 1, api.OK},
		{Op{1, 0, 4, ""}, "\xf0\xf0\xff\xff", 1, api.OK},
		{Op{1, 1, 0, "\x10\x30"}, "\x10\x30\x56", 2, api.OK},
		{Op{2, 0, 0, ""}, "\xff\xff\xff\xff", 2, api.OK},
		{Op{2, 1, 0, ""}, "\xff\xff\xff", 3, api.OK},
		{Op{2, 1, 7, "\x00"}, "\xff\xff\xff", 3, api.OK},
		{Op{1, 2, 1, "\x00"}, "", 0, api.ErrArg},
		{Op{1, 0, 4, "\x00"}, "", 0, api.ErrBounds},
		{Op{1, 0, 1, "\x00"}, "", 0, api.ErrAlign},
		{Op{2, 2, 0, ""}, "", 0, api.ErrArg},
		{Op{2, -1, 0, ""}, "", 0, api.ErrArg},
		{Op{0, 0, 0, "\x00\x00"}, "", 0, api.ErrArg},
		{Op{3, 0, 0, "\x00\x00"}, "", 0, api.ErrArg},
		{Op{3, 1, 9, "\x00"}, "", 0, api.ErrArg},
	} {
		want := f
		if x.err == api.OK {
			want.Banks[x.o.Bank], want.Erases[x.o.Bank] = x.comes, x.erases
		}
		if got, err := Do(f, x.o); got != want || err != x.err {
			t.Errorf("Do of %#v: %#v, %d", x.o, got, err)
		}
	}
}

func TestDoOfAllOps(t *testing.T) {
	for _, f := range flashes() {
		for _, o := range ops() {
			want, wantErr := done(f, o)
			if got, err := Do(f, o); got != want || err != wantErr {
				t.Errorf("Do of %#v and %#v: %#v, %d, not %#v, %d", f, o, got, err, want, wantErr)
			}
		}
	}
}

func TestOpsOfNoKind(t *testing.T) {
	for _, f := range flashes() {
		for _, kind := range noKinds() {
			for _, o := range []Op{{}, {Data: "\x00\x00"}, {Bank: 1}, {Bank: 2}, {At: 1, Data: "\x00"}} {
				o.Kind = kind
				if got, err := Do(f, o); got != f || err != api.ErrArg {
					t.Errorf("Do of %#v: %#v, %d", o, got, err)
				}
				if got, err := Tear(f, o, "\xff\xff"); got != f || err != api.ErrArg {
					t.Errorf("Tear of %#v: %#v, %d", o, got, err)
				}
				if got, n, err := Play(f, []Op{o}, -1, "\xff\xff"); got != f || n != 0 || err != api.ErrArg {
					t.Errorf("Play of %#v: %#v, %d, %d", o, got, n, err)
				}
			}
		}
	}
}

func TestDoOnceMoreThanTheLimit(t *testing.T) {
	for _, limit := range []int{0, 1, 2, 1000} {
		f := flash.New(4, limit)
		for range limit {
			f, _ = Do(f, Op{Kind: Erase, Bank: 1})
		}
		f, _ = Do(f, Op{Kind: Program, Bank: 1, Data: "\x12\x34"})
		if f.Erases != [2]int{0, limit} || f.Banks[1] != "\x12\x34\xff\xff" {
			t.Errorf("behind %d erases: %#v", limit, f)
		}
		if got, err := Do(f, Op{Kind: Erase, Bank: 1}); got != f || err != api.ErrWorn {
			t.Errorf("one more than %d: %#v, %d", limit, got, err)
		}
	}
}

// P4.2

func TestTearOfProgramOfKnown(t *testing.T) {
	f := flash.Flash{Banks: [2]string{"\xff\xff\xff\xff", "\x55\xf0\xff"}, Limit: 1}
	for _, x := range []struct {
		bank, at          int
		data, mask, comes string
	}{
		{0, 0, "\x0f\x0f", "\x81", "\x7f\xff\xff\xff"},
		{0, 2, "\x0f\x0f", "\x81", "\xff\xff\x7f\xff"},
		{0, 2, "\x00\x00", "\x01\x80", "\xff\xff\xfe\x7f"},
		{0, 2, "\x00\x00", "\x00\x00\xff\xff", "\xff\xff\xff\xff"},
		{0, 0, "\x00\x00", "\xff\xff\xff\xff", "\x00\x00\xff\xff"},
		{0, 0, "\x00\x0f\xf0\xaa", "", "\xff\xff\xff\xff"},
		{0, 0, "\x00\x0f\xf0\xaa", "\xff", "\x00\xff\xff\xff"},
		{0, 0, "\x00\x0f\xf0\xaa", "\xfe\xfe\xfe\xfe", "\x01\x0f\xf1\xab"},
		{0, 0, "\x00\x0f\xf0\xaa", "\xff\xff\xff\xff", "\x00\x0f\xf0\xaa"},
		{0, 4, "", "\xff\xff", "\xff\xff\xff\xff"},
		{1, 0, "\xaa\x0f", "\x0f\xf0", "\x50\x00\xff"},
		{1, 0, "\xff\xff", "\xff\xff\xff", "\x55\xf0\xff"},
	} {
		want := f
		want.Banks[x.bank] = x.comes
		if got, err := Tear(f, Op{Program, x.bank, x.at, x.data}, x.mask); got != want || err != api.OK {
			t.Errorf("%q at %d of %d, torn by %q: %q, %d", x.data, x.at, x.bank, x.mask, got.Banks, err)
		}
	}
}

func TestTearOfEraseOfKnown(t *testing.T) {
	f := flash.Flash{Banks: [2]string{"\x00\x12\x34\x56", "\x0f\xf0\x80"}, Erases: [2]int{0, 4}, Limit: 5}
	for _, x := range []struct {
		bank        int
		mask, comes string
	}{
		{0, "", "\x00\x12\x34\x56"},
		{0, "\x01", "\xff\x12\x34\x56"},
		{0, "\x00\x03\x02\x81", "\x00\xff\x34\xff"},
		{0, "\xfe\xfe\xfe\xfe", "\x00\x12\x34\x56"},
		{0, "\xff\xff\xff", "\xff\xff\xff\x56"},
		{0, "\xff\xff\xff\xff", "\xff\xff\xff\xff"},
		{0, "\x01\x01\x01\x01", "\xff\xff\xff\xff"},
		{0, "\x80\x00\x00\x01\x01\x01", "\x00\x12\x34\xff"},
		{0, "\x00\x00\x00\x00\xff", "\x00\x12\x34\x56"},
		{1, "\x00\x01", "\x0f\xff\x80"},
		{1, "\x7f\x7e\x7d\x7c", "\xff\xf0\xff"},
	} {
		want := f
		want.Banks[x.bank] = x.comes
		want.Erases[x.bank]++
		for _, o := range []Op{{Kind: Erase, Bank: x.bank}, {Erase, x.bank, 3, "\x00"}, {Erase, x.bank, -1, "\x00\x00"}} {
			if got, err := Tear(f, o, x.mask); got != want || err != api.OK {
				t.Errorf("%#v, torn by %q: %#v, %d", o, x.mask, got, err)
			}
		}
	}
}

func TestTearOfAllBytes(t *testing.T) {
	all := make([]byte, 256)
	for i := range all {
		all[i] = byte(i)
	}
	for b := range 256 {
		f := flash.Flash{Banks: [2]string{same(256, byte(b)), string(all)}, Limit: 1}
		for bank := range f.Banks {
			for _, o := range []Op{{Program, bank, 0, same(256, 15)}, {Program, bank, 0, string(all)}, {Kind: Erase, Bank: bank}} {
				for _, mask := range []string{same(256, byte(b)), string(all)} {
					want, _ := torn(f, o, mask)
					if got, err := Tear(f, o, mask); got != want || err != api.OK {
						t.Fatalf("%#v of %d, torn by %q: %q, %d", o, b, mask, got.Banks, err)
					}
				}
			}
		}
	}
}

func TestTearOfAllOps(t *testing.T) {
	for _, f := range flashes() {
		for _, o := range ops() {
			for _, mask := range masks() {
				want, wantErr := torn(f, o, mask)
				if got, err := Tear(f, o, mask); got != want || err != wantErr {
					t.Fatalf("Tear of %#v and %#v by %q: %#v, %d, not %#v, %d", f, o, mask, got, err, want, wantErr)
				}
			}
		}
	}
}

func TestTearGoesWrongAsDoDoes(t *testing.T) {
	f := flash.Flash{Banks: [2]string{"\x12\x34\x56\x78", "\x9a\xbc"}, Erases: [2]int{2, 0}, Limit: 2}
	for _, x := range []struct {
		o   Op
		err api.Errno
	}{
		{Op{0, 0, 0, "\x00\x00"}, api.ErrArg},
		{Op{3, 1, 0, "\x00\x00"}, api.ErrArg},
		{Op{Program, 2, 0, "\x00\x00"}, api.ErrArg},
		{Op{Program, -1, 1, "\x00"}, api.ErrArg},
		{Op{Program, 1, 0, "\x00\x00\x00"}, api.ErrBounds},
		{Op{Program, 1, 2, "\x00\x00"}, api.ErrBounds},
		{Op{Program, 0, -2, "\x00\x00"}, api.ErrBounds},
		{Op{Program, 0, math.MaxInt, "\x00"}, api.ErrBounds},
		{Op{Program, 0, 1, "\x00\x00"}, api.ErrAlign},
		{Op{Program, 0, 2, "\x00"}, api.ErrAlign},
		{Op{Erase, 2, 0, ""}, api.ErrArg},
		{Op{Erase, -1, 0, ""}, api.ErrArg},
		{Op{Erase, 0, 0, ""}, api.ErrWorn},
	} {
		for _, mask := range []string{"", "\x00", "\x01", "\xff\xff", same(500, 255)} {
			if got, err := Tear(f, x.o, mask); got != f || err != x.err {
				t.Errorf("Tear of %#v by %q: %#v, %d", x.o, mask, got, err)
			}
		}
	}
}

func TestTornErasesWear(t *testing.T) {
	for _, limit := range []int{0, 1, 2, 1000} {
		f := flash.Flash{Banks: [2]string{"\x12\x34", "\x56\x78"}, Limit: limit}
		for n := range limit {
			got, err := Tear(f, Op{Kind: Erase}, "")
			if err != api.OK || got.Banks != f.Banks || got.Erases != [2]int{n + 1, 0} {
				t.Fatalf("torn erase %d of %d: %#v, %d", n+1, limit, got, err)
			}
			f = got
		}
		if got, err := Tear(f, Op{Kind: Erase}, "\x01\x01"); got != f || err != api.ErrWorn {
			t.Errorf("one torn erase behind %d: %#v, %d", limit, got, err)
		}
	}
}

// P4.3

func TestPlayOfTheExample(t *testing.T) {
	f := flash.New(4, 1)
	if got, n, err := Play(f, []Op{{Program, 0, 2, "\x12\x34"}}, 0, ""); got != f || n != 0 || err != api.OK {
		t.Errorf("one op, cut at 0, with no mask: %#v, %d, %d", got, n, err)
	}
}

func TestPlayOfKnown(t *testing.T) {
	f := flash.Flash{Banks: [2]string{"\x12\x34\x56\x78", same(4, 255)}, Erases: [2]int{0, 1}, Limit: 2}
	good := []Op{{Kind: Erase, Bank: 0}, {Program, 0, 2, "\x0f\x0f"}, {Program, 1, 0, "\xaa\x55"}}
	blank := same(4, 255)
	for _, x := range []struct {
		cut    int
		mask   string
		banks  [2]string
		erased int // how often bank 0 was
		n      int
	}{
		{0, "", [2]string{"\x12\x34\x56\x78", blank}, 1, 0},
		{0, "\x02\x03", [2]string{"\x12\xff\x56\x78", blank}, 1, 0},
		{0, "\x01\x01\x01\x01", [2]string{blank, blank}, 1, 0},
		{1, "", [2]string{blank, blank}, 1, 1},
		{1, "\x81\xff", [2]string{"\xff\xff\x7f\x0f", blank}, 1, 1},
		{2, "", [2]string{"\xff\xff\x0f\x0f", blank}, 1, 2},
		{2, "\x0f\xf0", [2]string{"\xff\xff\x0f\x0f", "\xfa\x5f\xff\xff"}, 1, 2},
		{2, "\xff\xff", [2]string{"\xff\xff\x0f\x0f", "\xaa\x55\xff\xff"}, 1, 2},
		{3, "\x00", [2]string{"\xff\xff\x0f\x0f", "\xaa\x55\xff\xff"}, 1, 3},
		{4, "\x00", [2]string{"\xff\xff\x0f\x0f", "\xaa\x55\xff\xff"}, 1, 3},
		{math.MaxInt, "\x00", [2]string{"\xff\xff\x0f\x0f", "\xaa\x55\xff\xff"}, 1, 3},
		{-1, "\x00", [2]string{"\xff\xff\x0f\x0f", "\xaa\x55\xff\xff"}, 1, 3},
		{math.MinInt, "\x00", [2]string{"\xff\xff\x0f\x0f", "\xaa\x55\xff\xff"}, 1, 3},
	} {
		want := flash.Flash{Banks: x.banks, Erases: [2]int{x.erased, 1}, Limit: 2}
		if got, n, err := Play(f, good, x.cut, x.mask); got != want || n != x.n || err != api.OK {
			t.Errorf("cut at %d by %q: %#v, %d, %d", x.cut, x.mask, got, n, err)
		}
	}
}

func TestPlayOfOneThatGoesWrong(t *testing.T) {
	f := flash.New(4, 0)
	for _, x := range []struct {
		wrong Op
		err   api.Errno
	}{
		{Op{Kind: 3}, api.ErrArg},
		{Op{Program, 2, 0, ""}, api.ErrArg},
		{Op{Program, 1, 2, "\x00\x00\x00\x00"}, api.ErrBounds},
		{Op{Program, 1, 1, "\x00\x00"}, api.ErrAlign},
		{Op{Kind: Erase, Bank: 1}, api.ErrWorn},
	} {
		l := []Op{{Program, 0, 0, "\x12\x34"}, x.wrong, {Program, 0, 2, "\x56\x78"}}
		for _, y := range []struct {
			cut   int
			comes string
			n     int
			err   api.Errno
		}{
			{-1, "\x12\x34\xff\xff", 1, x.err},
			{0, "\xff\x34\xff\xff", 0, api.OK},
			{1, "\x12\x34\xff\xff", 1, x.err},
			{2, "\x12\x34\xff\xff", 1, x.err},
			{3, "\x12\x34\xff\xff", 1, x.err},
		} {
			got, n, err := Play(f, l, y.cut, "\x00\xff")
			if got.Banks != [2]string{y.comes, "\xff\xff\xff\xff"} || got.Erases != f.Erases || got.Limit != 0 || n != y.n || err != y.err {
				t.Errorf("%#v at 1, cut at %d: %#v, %d, %d", x.wrong, y.cut, got, n, err)
			}
		}
	}
}

func TestPlayOfWornBank(t *testing.T) {
	f := flash.Flash{Banks: [2]string{"\x12\x34", "\x56\x78"}, Erases: [2]int{0, 0}, Limit: 2}
	erase := Op{Kind: Erase, Bank: 1}
	for cut := -1; cut < 5; cut++ {
		got, n, err := Play(f, []Op{erase, erase, erase, erase}, cut, "\x01")
		want, wantN, wantErr := f, 2, api.ErrWorn
		want.Banks[1], want.Erases[1] = "\xff\xff", 2
		if cut == 0 {
			want.Banks[1], want.Erases[1], wantN, wantErr = "\xff\x78", 1, 0, api.OK
		}
		if cut == 1 {
			wantN, wantErr = 1, api.OK
		}
		if got != want || n != wantN || err != wantErr {
			t.Errorf("cut at %d: %#v, %d, %d", cut, got, n, err)
		}
	}
}

func TestPlayOfNoOps(t *testing.T) {
	for _, f := range flashes() {
		for _, l := range [][]Op{nil, {}} {
			for _, cut := range []int{math.MinInt, -1, 0, 1, math.MaxInt} {
				if got, n, err := Play(f, l, cut, "\xff"); got != f || n != 0 || err != api.OK {
					t.Errorf("no ops, cut at %d: %#v, %d, %d", cut, got, n, err)
				}
			}
		}
	}
}

// lists are ops of which none, some or all go wrong on f, up to the bound of a list.
func lists(f flash.Flash) [][]Op {
	var good []Op
	for _, o := range ops() {
		if _, err := done(f, o); err == api.OK {
			good = append(good, o)
		}
	}
	var out [][]Op
	for step := range 40 {
		dice := mixed(41, uint32(step))
		l := make([]Op, 0, 20)
		for i := range int(dice[40]) % 21 {
			from := good
			if len(good) == 0 || dice[2*i]%16 == 0 {
				from = ops()
			}
			l = append(l, from[int(dice[2*i+1])%len(from)])
		}
		out = append(out, l)
	}
	return out
}

func TestPlayOfAllLists(t *testing.T) {
	for _, f := range flashes() {
		for step, l := range lists(f) {
			was := slices.Clone(l)
			for cut := -2; cut < len(l)+2; cut++ {
				mask := mixed(step*13, uint32(cut))
				want, wantN, wantErr := played(f, l, cut, mask)
				got, n, err := Play(f, l, cut, mask)
				if got != want || n != wantN || err != wantErr {
					t.Fatalf("Play of %#v and %#v, cut at %d by %q: %#v, %d, %d, not %#v, %d, %d", f, l, cut, mask, got, n, err, want, wantN, wantErr)
				}
				if !slices.Equal(l, was) {
					t.Fatalf("Play changed %#v to %#v", was, l)
				}
			}
		}
	}
}

// P4.4

func TestTornProgramIsDoneInSomeBits(t *testing.T) {
	for _, f := range flashes() {
		for _, o := range ops() {
			whole, err := Do(f, o)
			if err != api.OK || o.Kind != Program {
				continue
			}
			for _, mask := range masks() {
				got, _ := Tear(f, o, mask)
				if !clear.May(f.Banks[o.Bank], whole.Banks[o.Bank], got.Banks[o.Bank]) {
					t.Fatalf("%#v, torn by %q, made %q of %q", o, mask, got.Banks[o.Bank], f.Banks[o.Bank])
				}
				if again, err := Do(got, o); again != whole || err != api.OK {
					t.Fatalf("%#v, torn by %q and done once more: %#v, %d", o, mask, again, err)
				}
				got.Banks[o.Bank] = f.Banks[o.Bank]
				if got != f {
					t.Fatalf("%#v, torn by %q, changed more than its bank: %#v, of %#v", o, mask, got, f)
				}
			}
			if got, _ := Tear(f, o, same(len(o.Data), 0)); got != f {
				t.Errorf("%#v, none of which was done: %#v, of %#v", o, got, f)
			}
			if got, _ := Tear(f, o, same(len(o.Data), 255)); got != whole {
				t.Errorf("%#v, all of which was done: %#v, not %#v", o, got, whole)
			}
		}
	}
}

func TestTornEraseIsDoneInSomeBytes(t *testing.T) {
	for _, f := range flashes() {
		for bank, s := range f.Banks {
			o := Op{Kind: Erase, Bank: bank}
			whole, err := Do(f, o)
			if err != api.OK {
				continue
			}
			for _, mask := range masks() {
				got, _ := Tear(f, o, mask)
				for i := range len(s) {
					if b := got.Banks[bank][i]; b != s[i] && b != 255 {
						t.Fatalf("an erase, torn by %q, made %d of %d", mask, b, s[i])
					}
				}
				if len(got.Banks[bank]) != len(s) {
					t.Fatalf("an erase, torn by %q, made %q of %q", mask, got.Banks[bank], s)
				}
				got.Banks[bank] = whole.Banks[bank]
				if got != whole {
					t.Fatalf("an erase of bank %d, torn by %q, changed more: %#v, not %#v", bank, mask, got, whole)
				}
			}
			if got, _ := Tear(f, o, same(len(s), 254)); got.Banks != f.Banks || got.Erases != whole.Erases {
				t.Errorf("an erase, none of which was done: %#v, of %#v", got, f)
			}
			if got, _ := Tear(f, o, same(len(s), 1)); got != whole {
				t.Errorf("an erase, all of which was done: %#v, not %#v", got, whole)
			}
		}
	}
}

func TestPlayIsWholeOpsAndATornOne(t *testing.T) {
	for _, f := range flashes() {
		for step, l := range lists(f) {
			for cut, o := range l {
				mask := mixed(step*13, uint32(cut))
				want, wantN, wantErr := Play(f, l[:cut], -1, "")
				if wantErr == api.OK {
					want, wantErr = Tear(want, o, mask)
				}
				if got, n, err := Play(f, l, cut, mask); got != want || n != wantN || err != wantErr {
					t.Fatalf("%#v, cut at %d by %q: %#v, %d, %d, not %#v, %d, %d", l, cut, mask, got, n, err, want, wantN, wantErr)
				}
			}
		}
	}
}
