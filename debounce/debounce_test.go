package debounce

import (
	"math"
	"math/big"
	"slices"
	"testing"
)

// The numbers of the document, by themselves: the votes, and how many of them are enough.
const (
	unknown  = 0
	grounded = 1
	airborne = 2
	agreeing = 3
)

// The oracle: what the document says; of single votes by exact numbers, of lists by the votes that say something alone.

// speaks tells whether v is one of the two votes that say something.
func speaks(v int) bool {
	switch v {
	case grounded, airborne:
		return true
	}
	return false
}

// add is what P18.1 says of Add.
func add(c Count, v int) Count {
	if !speaks(v) {
		return c
	}
	if c.Vote != v {
		return Count{v, 1}
	}
	n := new(big.Int).Add(big.NewInt(int64(c.N)), big.NewInt(1))
	if n.Cmp(big.NewInt(agreeing)) > 0 {
		n.SetInt64(agreeing)
	}
	if n.Cmp(big.NewInt(1)) < 0 {
		n.SetInt64(1)
	}
	return Count{v, int(n.Int64())}
}

// all is what P18.1 says of All.
func all(c Count, l []int) Count {
	if len(l) == 0 {
		return c
	}
	return all(add(c, l[0]), l[1:])
}

// verdict is what P18.1 says of Verdict.
func verdict(c Count) int {
	if c.N < agreeing || !speaks(c.Vote) {
		return unknown
	}
	return c.Vote
}

// spoken is the votes of l that say something.
func spoken(l []int) []int {
	var out []int
	for _, v := range l {
		if speaks(v) {
			out = append(out, v)
		}
	}
	return out
}

// agreed is what P18.2 says of the votes l, where there was no count ahead: the verdict is what the last three that say something all say.
func agreed(l []int) int {
	said := spoken(l)
	if len(said) < agreeing {
		return unknown
	}
	last := said[len(said)-agreeing:]
	if last[0] != last[1] || last[1] != last[2] {
		return unknown
	}
	return last[0]
}

// strange are numbers that are no votes: those beside the votes, the greatest and the least that there are, and such as come to votes in fewer bits, or without their sign.
func strange() []int {
	out := []int{-1, -2, -3, -4, 3, 4, 5, 6, 7, 8, 9, 99, -99, math.MaxInt, math.MaxInt - 1, math.MinInt, math.MinInt + 1, math.MinInt + 2, math.MaxInt32, math.MinInt32, math.MaxUint32, math.MaxInt16, math.MinInt16, math.MaxUint16, 127, -128, 255}
	for v := range 3 {
		for _, bits := range []int{2, 3, 8, 16, 32, 48, 62} {
			out = append(out, 1<<bits+v, -1<<bits+v, -1<<bits-v)
		}
	}
	return out
}

// silent are all those votes that say nothing.
func silent() []int {
	return append(strange(), unknown)
}

// every is votes of all kinds, and numbers that are none.
func every() []int {
	return append(strange(), unknown, grounded, airborne)
}

// lengths are numbers of votes: right ones, those above, and those that are none.
func lengths() []int {
	return append(strange(), 0, 1, 2, 3, 10, 100, 1000, math.MaxInt-2, math.MaxInt-3)
}

// everyCount calls f of counts of all votes, and of numbers that are none, at all lengths.
func everyCount(f func(c Count)) {
	for _, v := range every() {
		for _, n := range lengths() {
			f(Count{v, n})
		}
	}
}

// someCounts are right counts, such as have too many or too few votes, and such as have a vote that says nothing.
func someCounts() []Count {
	var out []Count
	for _, v := range []int{unknown, grounded, airborne, 3, -1, math.MaxInt, math.MinInt} {
		for _, n := range []int{0, 1, 2, 3, 4, 99, -1, -7, math.MaxInt, math.MaxInt - 1, math.MinInt} {
			out = append(out, Count{v, n})
		}
	}
	return out
}

// mixed is a number of 64 bits that hangs on seed alone.
func mixed(seed uint64) uint64 {
	seed += 0x9E3779B97F4A7C15
	seed = (seed ^ seed>>30) * 0xBF58476D1CE4E5B9
	seed = (seed ^ seed>>27) * 0x94D049BB133111EB
	return seed ^ seed>>31
}

// mixedList is 0 to 100 votes that hang on seed alone; half of them are like the one ahead, so that there are verdicts.
func mixedList(seed uint64) []int {
	numbers := strange()
	v := unknown
	var out []int
	for i := range mixed(seed) % 101 {
		bits := mixed(seed<<8 + i)
		switch bits % 10 {
		case 0:
			out = append(out, numbers[bits>>8%uint64(len(numbers))])
			continue
		case 1:
			out = append(out, unknown)
			continue
		case 2, 3:
			v = grounded
		case 4, 5:
			v = airborne
		}
		out = append(out, v)
	}
	return out
}

// shortLists calls f of all lists of up to so many votes of all three kinds, and of one that is none.
func shortLists(most int, f func(l []int)) {
	lists := [][]int{nil}
	for range most + 1 {
		var longer [][]int
		for _, l := range lists {
			f(l)
			for _, v := range []int{unknown, grounded, airborne, 9} {
				longer = append(longer, append(slices.Clone(l), v))
			}
		}
		lists = longer
	}
}

// everyList calls f of all short lists, of mixed ones, and of long ones.
func everyList(f func(l []int)) {
	shortLists(6, f)
	for seed := range uint64(2000) {
		f(mixedList(seed))
	}
	for seed := range uint64(100) {
		f(slices.Concat(mixedList(seed), slices.Repeat([]int{unknown, grounded, airborne}, 40), mixedList(seed+1)))
	}
	for _, v := range every() {
		for _, n := range []int{99, 100, 101, 1000} {
			f(slices.Repeat([]int{v}, n))
		}
	}
}

// oneByOne is what Add makes of c by each of the votes.
func oneByOne(c Count, l []int) Count {
	for _, v := range l {
		c = Add(c, v)
	}
	return c
}

// checkAdd holds Add against a count.
func checkAdd(t *testing.T, c Count, v int, want Count) {
	t.Helper()
	if got := Add(c, v); got != want {
		t.Errorf("Add(%v, %d) = %v, not %v", c, v, got, want)
	}
}

// checkAll holds All, and Add of one vote behind the other, against a count.
func checkAll(t *testing.T, c Count, l []int, want Count) {
	t.Helper()
	if got := All(c, l); got != want {
		t.Errorf("All(%v, %v) = %v, not %v", c, l, got, want)
	}
	if got := oneByOne(c, l); got != want {
		t.Errorf("Add of %v and, one by one, %v: %v, not %v", c, l, got, want)
	}
}

// checkVerdict holds Verdict against a vote.
func checkVerdict(t *testing.T, c Count, want int) {
	t.Helper()
	if got := Verdict(c); got != want {
		t.Errorf("Verdict(%v) = %d, not %d", c, got, want)
	}
}

// checkVotes holds the verdict of votes, from no count, against one.
func checkVotes(t *testing.T, l []int, want int) {
	t.Helper()
	if got := Verdict(All(Count{}, l)); got != want {
		t.Errorf("Verdict of %v: %d, not %d", l, got, want)
	}
	if got := Verdict(oneByOne(Count{}, l)); got != want {
		t.Errorf("Verdict of, one by one, %v: %d, not %d", l, got, want)
	}
}

// P18.1: Add

func TestAddOfKnown(t *testing.T) {
	for _, x := range []struct {
		c    Count
		v    int
		want Count
	}{
		{Count{}, grounded, Count{grounded, 1}}, {Count{}, airborne, Count{airborne, 1}}, {Count{}, unknown, Count{}},
		{Count{grounded, 1}, grounded, Count{grounded, 2}}, {Count{airborne, 1}, airborne, Count{airborne, 2}},
		{Count{grounded, 2}, grounded, Count{grounded, 3}}, {Count{airborne, 2}, airborne, Count{airborne, 3}},
		{Count{grounded, 3}, grounded, Count{grounded, 3}}, {Count{airborne, 3}, airborne, Count{airborne, 3}},
		{Count{grounded, 1}, airborne, Count{airborne, 1}}, {Count{airborne, 1}, grounded, Count{grounded, 1}},
		{Count{grounded, 2}, airborne, Count{airborne, 1}}, {Count{airborne, 2}, grounded, Count{grounded, 1}},
		{Count{grounded, 3}, airborne, Count{airborne, 1}}, {Count{airborne, 3}, grounded, Count{grounded, 1}},
		{Count{grounded, 2}, unknown, Count{grounded, 2}}, {Count{airborne, 3}, unknown, Count{airborne, 3}},
	} {
		checkAdd(t, x.c, x.v, x.want)
	}
}

func TestAddOfNoRightLength(t *testing.T) {
	for _, v := range []int{grounded, airborne} {
		for _, x := range []struct{ n, want int }{
			{0, 1}, {-1, 1}, {-2, 1}, {-3, 1}, {-4, 1}, {-1000, 1}, {math.MinInt32, 1}, {math.MinInt + 1, 1}, {math.MinInt, 1},
			{4, 3}, {5, 3}, {99, 3}, {255, 3}, {math.MaxInt32, 3}, {math.MaxUint32, 3}, {math.MaxInt - 2, 3}, {math.MaxInt - 1, 3}, {math.MaxInt, 3},
		} {
			checkAdd(t, Count{v, x.n}, v, Count{v, x.want})
			// A vote of the other kind begins anew, whatever was counted.
			checkAdd(t, Count{v, x.n}, 3-v, Count{3 - v, 1})
		}
	}
}

func TestAddOfVotesThatSayNothing(t *testing.T) {
	for _, v := range silent() {
		everyCount(func(c Count) {
			checkAdd(t, c, v, c)
		})
	}
}

func TestAddToCountsOfNoVote(t *testing.T) {
	for _, other := range silent() {
		for _, n := range lengths() {
			for _, v := range []int{grounded, airborne} {
				checkAdd(t, Count{other, n}, v, Count{v, 1})
			}
			// It is not counted, though it is the vote that the count has.
			checkAdd(t, Count{other, n}, other, Count{other, n})
		}
	}
}

func TestAddOfAll(t *testing.T) {
	for _, v := range every() {
		everyCount(func(c Count) {
			checkAdd(t, c, v, add(c, v))
		})
	}
}

// P18.1: All

func TestAllOfNoVotes(t *testing.T) {
	everyCount(func(c Count) {
		checkAll(t, c, nil, c)
		checkAll(t, c, []int{}, c)
	})
}

func TestAllOfKnown(t *testing.T) {
	for _, x := range []struct {
		c    Count
		l    []int
		want Count
	}{
		{Count{}, []int{1}, Count{1, 1}}, {Count{}, []int{1, 1}, Count{1, 2}}, {Count{}, []int{1, 1, 1}, Count{1, 3}}, {Count{}, []int{1, 1, 1, 1, 1}, Count{1, 3}},
		{Count{}, []int{0, 0, 0}, Count{}}, {Count{}, []int{9, -1}, Count{}},
		{Count{}, []int{2, 0, 2, 2}, Count{2, 3}}, {Count{}, []int{2, 2, 1, 2}, Count{2, 1}}, {Count{}, []int{2, 2, 2, 1}, Count{1, 1}}, {Count{}, []int{2, 1, 2, 1, 1}, Count{1, 2}},
		{Count{1, 2}, []int{0, 1}, Count{1, 3}}, {Count{1, 2}, []int{2, 1}, Count{1, 1}}, {Count{2, 3}, []int{0, 9, 2, 0}, Count{2, 3}}, {Count{2, 3}, []int{1, 1}, Count{1, 2}},
		{Count{2, 0}, []int{2, 2}, Count{2, 2}}, {Count{2, -9}, []int{2, 2}, Count{2, 2}}, {Count{2, 99}, []int{2}, Count{2, 3}}, {Count{2, 99}, []int{0, 9}, Count{2, 99}},
		{Count{7, 2}, []int{7, 7}, Count{7, 2}}, {Count{7, 2}, []int{1}, Count{1, 1}}, {Count{0, 3}, []int{0, 2}, Count{2, 1}},
		{Count{1, math.MaxInt}, []int{1, 1}, Count{1, 3}}, {Count{1, math.MinInt}, []int{1, 1}, Count{1, 2}}, {Count{1, math.MinInt}, []int{0, math.MinInt, math.MaxInt}, Count{1, math.MinInt}},
	} {
		checkAll(t, x.c, x.l, x.want)
	}
}

func TestAllOfLists(t *testing.T) {
	begin := someCounts()
	i := 0
	everyList(func(l []int) {
		checkAll(t, Count{}, l, all(Count{}, l))
		for range 5 {
			c := begin[i%len(begin)]
			checkAll(t, c, l, all(c, l))
			i++
		}
	})
	for _, c := range begin {
		shortLists(4, func(l []int) {
			checkAll(t, c, l, all(c, l))
		})
		for seed := range uint64(100) {
			l := mixedList(seed)
			checkAll(t, c, l, all(c, l))
		}
	}
}

func TestAllInParts(t *testing.T) {
	begin := someCounts()
	for seed := range uint64(200) {
		c, l := begin[seed%uint64(len(begin))], mixedList(seed)
		want := All(c, l)
		for i := range len(l) + 1 {
			if got := All(All(c, l[:i]), l[i:]); got != want {
				t.Errorf("All(%v, %v), parted at %d: %v, not %v", c, l, i, got, want)
			}
		}
	}
}

func TestAllLeavesItsVotes(t *testing.T) {
	for seed := range uint64(100) {
		l := mixedList(seed)
		was := slices.Clone(l)
		first := All(Count{airborne, 2}, l)
		if !slices.Equal(l, was) {
			t.Errorf("All made %v of %v", l, was)
		}
		if again := All(Count{airborne, 2}, l); again != first {
			t.Errorf("All of %v: %v, and then %v", l, first, again)
		}
	}
}

func TestCountsAreGoneThroughVoteByVote(t *testing.T) {
	l := []int{2, 0, 2, 2, 1, 9}
	want := []Count{{2, 1}, {2, 1}, {2, 2}, {2, 3}, {1, 1}, {1, 1}}
	each := counts(Count{}, l)
	// Whoever leaves it early, or goes through it again, gets the same ones.
	for most := range len(want) + 1 {
		var got []Count
		for c := range each {
			if len(got) == most {
				break
			}
			got = append(got, c)
		}
		if !slices.Equal(got, want[:most]) {
			t.Errorf("the first %d counts of %v: %v, not %v", most, l, got, want[:most])
		}
	}
}

// P18.1: Verdict

func TestVerdictOfKnown(t *testing.T) {
	for _, v := range []int{grounded, airborne} {
		for _, n := range []int{3, 4, 5, 99, 1000, math.MaxInt32, math.MaxUint32, math.MaxInt - 1, math.MaxInt} {
			checkVerdict(t, Count{v, n}, v)
		}
		for _, n := range []int{2, 1, 0, -1, -2, -3, -4, -99, math.MinInt32, math.MinInt + 1, math.MinInt} {
			checkVerdict(t, Count{v, n}, unknown)
		}
	}
	checkVerdict(t, Count{}, unknown)
}

func TestVerdictOfNoVote(t *testing.T) {
	for _, v := range silent() {
		for _, n := range lengths() {
			checkVerdict(t, Count{v, n}, unknown)
		}
	}
}

func TestVerdictOfAll(t *testing.T) {
	everyCount(func(c Count) {
		checkVerdict(t, c, verdict(c))
	})
}

// P18.2

func TestVerdictOfKnownVotes(t *testing.T) {
	for _, x := range []struct {
		l    []int
		want int
	}{
		{nil, unknown}, {[]int{}, unknown}, {[]int{0}, unknown}, {[]int{1}, unknown}, {[]int{2}, unknown},
		{[]int{1, 1}, unknown}, {[]int{2, 2}, unknown}, {[]int{1, 1, 1}, grounded}, {[]int{2, 2, 2}, airborne}, {[]int{1, 1, 1, 1}, grounded}, {[]int{2, 2, 2, 2, 2, 2, 2}, airborne},
		{[]int{2, 0, 2, 2}, airborne}, {[]int{2, 2, 1, 2}, unknown},
		// Votes that say nothing: ahead, between, and behind.
		{[]int{0, 0, 1, 1, 1}, grounded}, {[]int{1, 0, 1, 9, 0, 1}, grounded}, {[]int{1, 1, 1, 0, -1, 0, 0}, grounded}, {[]int{0, 2, 0, 2, 0, 2, 0}, airborne},
		{[]int{0, 2, 0, 2, 0}, unknown}, {[]int{0, 0, 0}, unknown}, {[]int{2, 2, 0}, unknown}, {[]int{9, 9, 9}, unknown}, {[]int{-1, -1, -1, -1}, unknown},
		{[]int{math.MinInt, 2, math.MaxInt, 2, 2, math.MinInt}, airborne}, {[]int{math.MaxInt, math.MaxInt, math.MaxInt}, unknown},
		// One vote of the other kind, and more of it, behind a verdict.
		{[]int{2, 2, 2, 1}, unknown}, {[]int{1, 1, 1, 2}, unknown}, {[]int{2, 2, 2, 1, 1}, unknown}, {[]int{2, 2, 2, 1, 1, 1}, grounded}, {[]int{1, 1, 1, 2, 2, 2}, airborne}, {[]int{2, 2, 2, 0, 1, 0, 1, 1}, grounded},
		{[]int{2, 2, 2, 2, 2, 1, 2, 2}, unknown}, {[]int{2, 2, 2, 2, 2, 1, 2, 2, 2}, airborne},
		// Three that agree, but not one behind the other.
		{[]int{1, 2, 1, 2, 1, 2}, unknown}, {[]int{1, 1, 2, 1, 1, 2}, unknown}, {[]int{2, 1, 1, 2, 2}, unknown},
	} {
		checkVotes(t, x.l, x.want)
	}
}

func TestVerdictIsOfVotesThatAgree(t *testing.T) {
	said := [3]int{}
	everyList(func(l []int) {
		want := agreed(l)
		checkVotes(t, l, want)
		said[want]++
	})
	for v, n := range said {
		if n < 100 {
			t.Errorf("only %d lists say %d", n, v)
		}
	}
}

func TestVerdictBehindACount(t *testing.T) {
	// A right count is as good as the votes that it has.
	for _, v := range []int{grounded, airborne} {
		for n := range agreeing + 1 {
			ahead := slices.Repeat([]int{v}, n)
			shortLists(5, func(l []int) {
				if got, want := Verdict(All(Count{v, n}, l)), agreed(append(slices.Clone(ahead), l...)); got != want {
					t.Errorf("Verdict of %v behind %d times %d: %d, not %d", l, n, v, got, want)
				}
			})
		}
	}
	// A count of no votes, or of what is no vote, is as good as none.
	for _, c := range []Count{{unknown, 3}, {3, 3}, {-1, 99}, {math.MaxInt, math.MaxInt}, {math.MinInt, 2}, {grounded, 0}, {airborne, 0}, {grounded, -1}, {airborne, -2}, {airborne, math.MinInt}} {
		shortLists(5, func(l []int) {
			if got, want := Verdict(All(c, l)), agreed(l); got != want {
				t.Errorf("Verdict of %v behind %v: %d, not %d", l, c, got, want)
			}
		})
	}
}

func TestVotesThatSayNothingDoNotCount(t *testing.T) {
	begin := someCounts()
	i := 0
	everyList(func(l []int) {
		c := begin[i%len(begin)]
		i++
		if got, want := All(c, l), All(c, spoken(l)); got != want {
			t.Errorf("All(%v, %v) = %v, but %v of those that say something", c, l, got, want)
		}
	})
	// At each place of a list, whatever says nothing.
	l := []int{1, 2, 2, 1, 1, 1, 2, 2, 2}
	for _, v := range silent() {
		for n := range len(l) + 1 {
			for at := range n + 1 {
				checkVotes(t, slices.Insert(slices.Clone(l[:n]), at, v, v, v), agreed(l[:n]))
			}
		}
	}
}

func TestAVerdictStaysTillAnotherVote(t *testing.T) {
	for _, v := range []int{grounded, airborne} {
		for n := agreeing; n < 100; n++ {
			c := All(Count{}, slices.Repeat([]int{v}, n))
			checkVerdict(t, c, v)
			for _, nothing := range silent() {
				checkVerdict(t, Add(c, nothing), v)
			}
			// As long as it stood, it goes by one vote, and turns by three.
			for i, want := range []int{unknown, unknown, 3 - v} {
				c = Add(c, 3-v)
				checkVerdict(t, c, want)
				checkAdd(t, c, unknown, Count{3 - v, i + 1})
			}
		}
	}
}

func TestCountsStayInTheirLimits(t *testing.T) {
	for _, v := range []int{grounded, airborne} {
		everyCount(func(c Count) {
			if got := Add(c, v); got.Vote != v || got.N < 1 || got.N > agreeing {
				t.Errorf("Add(%v, %d) = %v", c, v, got)
			}
		})
	}
}

// other is the vote of the other kind; what says nothing stays.
func other(v int) int {
	if speaks(v) {
		return 3 - v
	}
	return v
}

func TestBothKindsAreAlike(t *testing.T) {
	everyList(func(l []int) {
		turned := make([]int, len(l))
		for i, v := range l {
			turned[i] = other(v)
		}
		c := All(Count{}, l)
		checkAll(t, Count{}, turned, Count{other(c.Vote), c.N})
		checkVotes(t, turned, other(Verdict(c)))
	})
}
