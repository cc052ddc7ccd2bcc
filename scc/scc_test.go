package scc_test

import (
	"math"
	"slices"
	"testing"

	"fugue/scc"
)

func equal(a, b [][]int) bool { return slices.EqualFunc(a, b, slices.Equal[[]int]) }

// P7.1: the groups, their things rising, and the row in which they stand.
func TestGroups(t *testing.T) {
	for _, c := range []struct {
		name string
		n    int
		uses [][]int
		want [][]int
	}{
		{"the document's", 3, [][]int{{1}, {0, 2}}, [][]int{{2}, {0, 1}}},
		{"no things", 0, nil, nil},
		{"no things, but lists", 0, [][]int{{0}, {0}}, nil},
		{"one", 1, nil, [][]int{{0}}},
		{"one of itself", 1, [][]int{{0}}, [][]int{{0}}},
		{"no lists", 3, nil, [][]int{{0}, {1}, {2}}},
		{"empty lists", 2, [][]int{{}, nil}, [][]int{{0}, {1}}},
		{"itself and another", 2, [][]int{{0, 1, 0}}, [][]int{{1}, {0}}},
		{"the same one twice", 2, [][]int{{1, 1}, {1}}, [][]int{{1}, {0}}},
		{"twice round", 2, [][]int{{1, 1}, {0, 0}}, [][]int{{0, 1}}},
		{"fewer lists", 3, [][]int{{2}}, [][]int{{1}, {2}, {0}}},
		{"more lists", 2, [][]int{{1}, nil, {0}, {1}}, [][]int{{1}, {0}}},
		{"a circle by way of a list beyond", 2, [][]int{{2}, nil, {0}}, [][]int{{0}, {1}}},
		{"none of the things", 2, [][]int{{2, -1, math.MaxInt, math.MinInt, 1}, {-2, 3}}, [][]int{{1}, {0}}},
		{"none of the things, alone", 1, [][]int{{-1, 1, 7}}, [][]int{{0}}},
		{"rising, come to falling", 3, [][]int{{2}, {0}, {1}}, [][]int{{0, 1, 2}}},
		{"two circles, apart", 4, [][]int{{2}, {3}, {0}, {1}}, [][]int{{0, 2}, {1, 3}}},
		{"two circles, one of the other", 4, [][]int{{2, 1}, {3}, {0}, {1}}, [][]int{{1, 3}, {0, 2}}},
		{"two circles with one thing", 3, [][]int{{1, 2}, {0}, {0}}, [][]int{{0, 1, 2}}},
		{"the least, not the one that is needed first", 4, [][]int{{3}}, [][]int{{1}, {2}, {3}, {0}}},
		{"the least, not one a step", 4, [][]int{{1}, {3}}, [][]int{{2}, {3}, {1}, {0}}},
		{"goes back to a lesser one", 4, [][]int{{1}}, [][]int{{1}, {0}, {2}, {3}}},
		{"goes back, not on", 5, [][]int{{2}, {4}, nil, {2}}, [][]int{{2}, {0}, {3}, {4}, {1}}},
		{"by its least thing, not its greatest", 3, [][]int{{2}, nil, {0}}, [][]int{{0, 2}, {1}}},
		{"by its least thing, not the one that is used", 4, [][]int{{3}, nil, {1}, {0, 1}}, [][]int{{1}, {0, 3}, {2}}},
		{"needs two", 4, [][]int{{1, 3}, nil, {0}}, [][]int{{1}, {3}, {0}, {2}}},
	} {
		if got := scc.Groups(c.n, c.uses); !equal(got, c.want) {
			t.Errorf("%s: %v, not %v", c.name, got, c.want)
		}
	}
}

// P7.2: who leads to whom.
func TestReaches(t *testing.T) {
	uses := [][]int{{1, 6, -1}, {2, 2}, {1}, {3, 4}, nil, {6}, {0}}
	for _, c := range []struct {
		n, from, to int
		want        bool
	}{
		{6, 0, 0, true}, {6, 0, 1, true}, {6, 0, 2, true}, {6, 1, 2, true}, {6, 2, 1, true}, {6, 1, 1, true},
		{6, 1, 0, false}, {6, 2, 0, false}, {6, 0, 3, false}, {6, 3, 3, true}, {6, 3, 4, true}, {6, 4, 3, false}, {6, 4, 4, true},
		{6, 5, 0, false}, {6, 0, 5, false}, // only by way of 6, which is none
		{6, -1, 0, false}, {6, 0, -1, false}, {6, -1, -1, false}, {6, 0, 6, false}, {6, 6, 0, false}, {6, 6, 6, false},
		{6, math.MinInt, 0, false}, {6, math.MaxInt, math.MaxInt, false},
		{7, 5, 2, true}, {7, 6, 2, true}, {7, 1, 6, false},
		{9, 8, 8, true}, {9, 8, 7, false}, {9, 0, 8, false}, {9, 9, 9, false},
		{2, 0, 1, true}, {2, 1, 1, true}, {2, 0, 2, false}, {2, 1, 2, false},
		{1, 0, 0, true}, {0, 0, 0, false},
	} {
		if got := scc.Reaches(c.n, uses, c.from, c.to); got != c.want {
			t.Errorf("%d things, from %d to %d: %v", c.n, c.from, c.to, got)
		}
	}
	if !scc.Reaches(1, nil, 0, 0) || scc.Reaches(2, nil, 0, 1) || scc.Reaches(0, nil, 0, 0) {
		t.Error("without lists")
	}
}

// LANGUAGE 4: whatever is handed in.
func TestWhateverIsHandedIn(t *testing.T) {
	for _, n := range []int{-1, -7, math.MinInt, math.MaxInt} {
		if got := scc.Groups(n, [][]int{{1}, {0}}); len(got) != 0 {
			t.Errorf("%d: %v", n, got)
		}
	}
	for _, n := range []int{-1, math.MinInt} {
		for _, p := range [][2]int{{0, 0}, {-1, -1}, {0, 1}, {n, n}} {
			if scc.Reaches(n, [][]int{{1}, {0}}, p[0], p[1]) {
				t.Error(n, p)
			}
		}
	}
	// There may be as many things as there are numbers, where nothing is told of most of them.
	uses := [][]int{{1}, {math.MaxInt - 1, math.MaxInt}}
	for _, c := range []struct {
		from, to int
		want     bool
	}{{0, math.MaxInt - 1, true}, {math.MaxInt - 1, 0, false}, {math.MaxInt - 1, math.MaxInt - 1, true}, {1 << 40, 1 << 41, false}, {0, math.MaxInt, false}} {
		if scc.Reaches(math.MaxInt, uses, c.from, c.to) != c.want {
			t.Error(c)
		}
	}
}
