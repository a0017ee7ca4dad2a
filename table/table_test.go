package table

import (
	"math"
	"slices"
	"testing"
)

// The names and the numbers of the document, by themselves.
func names() map[string]int {
	return map[string]int{"Idle": 0, "Manual": 1, "Hover": 2, "Auto": 3, "Return": 4, "Land": 5}
}

// listed is what P15.1 says of the ways from each mode to others, in its words: the mode, and behind it those to which there is a way.
func listed() [][]string {
	return [][]string{
		{"Idle", "Manual"},
		{"Manual", "Idle", "Manual", "Hover", "Auto", "Return", "Land"},
		{"Hover", "Manual", "Hover", "Auto", "Return", "Land"},
		{"Auto", "Manual", "Hover", "Auto", "Return", "Land"},
		{"Return", "Manual", "Hover", "Land"},
		{"Land", "Manual", "Idle"},
	}
}

// way is what P15.1 says of Way.
func way(from, to int) bool {
	for _, l := range listed() {
		if names()[l[0]] != from {
			continue
		}
		for _, name := range l {
			if names()[name] == to {
				return true
			}
		}
	}
	return false
}

// others are numbers that are no modes: those beside the modes, the greatest and the least that there are, and such as come to modes in fewer bits, or without their sign.
func others() []int {
	out := []int{-1, -2, -3, -4, -5, -6, -7, 6, 7, 8, 9, 10, 11, 12, 15, 16, 31, 32, 36, 63, 64, 127, 128, 255, -128, 1000, -1000, math.MaxInt, math.MaxInt - 1, math.MinInt, math.MinInt + 1, math.MaxInt32, math.MinInt32, math.MaxUint32, math.MaxInt16, math.MinInt16, math.MaxUint16}
	for mode := range 6 {
		for _, bits := range []int{3, 8, 16, 32, 48, 62} {
			out = append(out, 1<<bits+mode, -1<<bits+mode, -1<<bits-mode)
		}
		out = append(out, math.MinInt+mode, math.MaxInt-mode)
	}
	return out
}

// over tells to which modes one comes from a mode by as many ways as it is said, of which a way to itself is one, too.
func over(from, steps int) [6]bool {
	var at [6]bool
	at[from] = true
	for range steps {
		var next [6]bool
		for mode, here := range at {
			for to := range next {
				next[to] = next[to] || here && Way(mode, to)
			}
		}
		at = next
	}
	return at
}

// P15.1

func TestModesAreNumbered(t *testing.T) {
	got := [6]int{Idle, Manual, Hover, Auto, Return, Land}
	if got != [6]int{0, 1, 2, 3, 4, 5} {
		t.Errorf("the modes: %v", got)
	}
	// As the document writes them, they are constants of no type of their own.
	if x := [...]float64{Idle, Manual, Hover, Auto, Return, Land}; x != [6]float64{0, 1, 2, 3, 4, 5} {
		t.Errorf("the modes, as other numbers: %v", x)
	}
}

func TestWayOfAllPairs(t *testing.T) {
	want := [6]string{
		"yy----",
		"yyyyyy",
		"-yyyyy",
		"-yyyyy",
		"-yy-yy",
		"yy---y",
	}
	for from := range 6 {
		for to := range 6 {
			if got := Way(from, to); got != (want[from][to] == 'y') || got != way(from, to) {
				t.Errorf("Way(%d, %d) = %v", from, to, got)
			}
		}
	}
}

func TestWayOfKnown(t *testing.T) {
	for _, x := range []struct {
		from, to int
		want     bool
	}{
		{Idle, Auto, false},
		{Idle, Manual, true},
		{Idle, Hover, false},
		{Idle, Return, false},
		{Idle, Land, false},
		{Manual, Idle, true},
		{Manual, Land, true},
		{Hover, Idle, false},
		{Hover, Return, true},
		{Auto, Idle, false},
		{Auto, Return, true},
		{Return, Idle, false},
		{Return, Auto, false},
		{Return, Hover, true},
		{Land, Idle, true},
		{Land, Manual, true},
		{Land, Hover, false},
		{Land, Auto, false},
		{Land, Return, false},
	} {
		if Way(x.from, x.to) != x.want {
			t.Errorf("Way(%d, %d) = %v", x.from, x.to, !x.want)
		}
	}
}

func TestWayToItself(t *testing.T) {
	for mode := range 6 {
		if !Way(mode, mode) {
			t.Errorf("Way(%d, %d) = false", mode, mode)
		}
		if !slices.Contains(Ways(mode), mode) {
			t.Errorf("Ways(%d) = %v, without itself", mode, Ways(mode))
		}
	}
}

func TestWayOfOthers(t *testing.T) {
	for _, n := range others() {
		for mode := range 6 {
			if Way(n, mode) {
				t.Errorf("Way(%d, %d) = true", n, mode)
			}
			if Way(mode, n) {
				t.Errorf("Way(%d, %d) = true", mode, n)
			}
		}
		for _, m := range others() {
			if Way(n, m) {
				t.Errorf("Way(%d, %d) = true", n, m)
			}
		}
		if Way(n, n) {
			t.Errorf("Way(%d, %d) = true", n, n)
		}
	}
}

func TestWayOfAllNear(t *testing.T) {
	for from := -300; from <= 300; from++ {
		for to := -300; to <= 300; to++ {
			if Way(from, to) != way(from, to) {
				t.Fatalf("Way(%d, %d) = %v", from, to, Way(from, to))
			}
		}
	}
}

func TestWaysOfModes(t *testing.T) {
	for from, want := range [6][]int{{0, 1}, {0, 1, 2, 3, 4, 5}, {1, 2, 3, 4, 5}, {1, 2, 3, 4, 5}, {1, 2, 4, 5}, {0, 1, 5}} {
		got := Ways(from)
		if !slices.Equal(got, want) {
			t.Errorf("Ways(%d) = %v, not %v", from, got, want)
		}
		for k := 1; k < len(got); k++ {
			if got[k-1] >= got[k] {
				t.Errorf("Ways(%d) = %v, which does not rise", from, got)
			}
		}
	}
}

func TestWaysIsWay(t *testing.T) {
	for from := -300; from <= 300; from++ {
		l := Ways(from)
		for to := -300; to <= 300; to++ {
			if slices.Contains(l, to) != Way(from, to) {
				t.Fatalf("Ways(%d) = %v, but Way(%d, %d) = %v", from, l, from, to, Way(from, to))
			}
		}
	}
}

func TestWaysOfOthers(t *testing.T) {
	for _, n := range others() {
		if l := Ways(n); len(l) != 0 {
			t.Errorf("Ways(%d) = %v", n, l)
		}
	}
}

func TestWaysIsNewMemory(t *testing.T) {
	for from := range 6 {
		want, kept := slices.Clone(Ways(from)), Ways(from)
		spoilt := Ways(from)
		spoilt = spoilt[:cap(spoilt)]
		for k := range spoilt {
			spoilt[k] = 77
		}
		if !slices.Equal(kept, want) {
			t.Errorf("Ways(%d), handed out ahead of a write to another list of it: %v, not %v", from, kept, want)
		}
		for mode := range 6 {
			for to := range 6 {
				if Way(mode, to) != way(mode, to) || slices.Contains(Ways(mode), to) != way(mode, to) {
					t.Errorf("from %d to %d there is another answer behind a write to a list of %d", mode, to, from)
				}
			}
		}
		if got := Ways(from); !slices.Equal(got, want) {
			t.Errorf("Ways(%d) behind a write: %v, not %v", from, got, want)
		}
	}
}

// P15.2

func TestWhatModesNeed(t *testing.T) {
	for mode, want := range [6]struct {
		needs       int
		home, flies bool
	}{
		Idle:   {0, false, false},
		Manual: {1, false, true},
		Hover:  {2, false, true},
		Auto:   {3, true, true},
		Return: {2, true, true},
		Land:   {1, false, true},
	} {
		if got := Needs(mode); got != want.needs {
			t.Errorf("Needs(%d) = %d, not %d", mode, got, want.needs)
		}
		if got := Home(mode); got != want.home {
			t.Errorf("Home(%d) = %v", mode, got)
		}
		if got := Flying(mode); got != want.flies {
			t.Errorf("Flying(%d) = %v", mode, got)
		}
	}
}

// checkNothing holds all that is asked of a mode against what holds of a number that is none.
func checkNothing(t *testing.T, n int) {
	t.Helper()
	if needs, home, flies := Needs(n), Home(n), Flying(n); needs != 0 || home || flies {
		t.Errorf("of %d: Needs %d, Home %v, Flying %v", n, needs, home, flies)
	}
}

func TestWhatOthersNeed(t *testing.T) {
	for _, n := range others() {
		checkNothing(t, n)
	}
}

func TestWhatAllNearNeed(t *testing.T) {
	for n := range 70000 {
		checkNothing(t, -1-n)
		checkNothing(t, 6+n)
		checkNothing(t, math.MinInt+n)
		checkNothing(t, math.MaxInt-n)
	}
}

// P15.3

func TestEachModeIsWithinThreeWays(t *testing.T) {
	for from := range 6 {
		for to := range 6 {
			if !over(from, 3)[to] {
				t.Errorf("from %d to %d there is no way over three steps", from, to)
			}
		}
	}
}

func TestModesOverOneTwoAndThreeWays(t *testing.T) {
	// Each mode has a way to Manual, and Manual has one to each mode, so that two are enough.
	one := [6][6]bool{
		{true, true, false, false, false, false},
		{true, true, true, true, true, true},
		{false, true, true, true, true, true},
		{false, true, true, true, true, true},
		{false, true, true, false, true, true},
		{true, true, false, false, false, true},
	}
	all := [6]bool{true, true, true, true, true, true}
	for from := range 6 {
		if got := over(from, 1); got != one[from] {
			t.Errorf("from %d over one way: %v, not %v", from, got, one[from])
		}
		for _, steps := range []int{2, 3} {
			if got := over(from, steps); got != all {
				t.Errorf("from %d over %d ways: %v", from, steps, got)
			}
		}
	}
}
