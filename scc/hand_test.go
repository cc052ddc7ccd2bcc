package scc_test

import (
	"slices"
	"testing"

	"fugue/scc"
)

// R1: chains and circles as long as there are things, and a row that goes to and fro.
func TestMany(t *testing.T) {
	const n = 300000
	up, down, round, swing := make([][]int, n), make([][]int, n), make([][]int, n), make([][]int, n)
	for i := range n {
		up[i], down[i], round[i] = []int{i + 1}, []int{i - 1}, []int{(i + 1) % n}
		// The first one of the other half, the first one of this, the second one of the other half, and so on.
		if swing[i] = []int{i + n/2}; i >= n/2 {
			swing[i] = []int{i - n/2 - 1}
		}
	}
	for _, c := range []struct {
		name        string
		uses        [][]int
		groups      int
		first, last int
		forth, back bool
	}{
		{"up", up, n, n - 1, 0, true, false},
		{"down", down, n, 0, n - 1, false, true},
		{"round", round, 1, 0, 0, true, true},
		{"swing", swing, n, n / 2, n/2 - 1, false, true},
	} {
		got := follows(t, n, c.uses)
		if len(got) != c.groups || got[0][0] != c.first || got[len(got)-1][0] != c.last {
			t.Error(c.name, len(got), got[0][0], got[len(got)-1][0])
		}
		if scc.Reaches(n, c.uses, 0, n-1) != c.forth || scc.Reaches(n, c.uses, n-1, 0) != c.back {
			t.Error(c.name, "reaches")
		}
	}
}

// R1: what uses very much is asked for each of its uses once.
func TestMuch(t *testing.T) {
	const n, much = 1500, 1500
	uses := make([][]int, n)
	for i := range n {
		for j := range much {
			uses[i] = append(uses[i], i+1+j)
		}
	}
	if got := follows(t, n, uses); len(got) != n || got[0][0] != n-1 {
		t.Error(len(got))
	}
	if !scc.Reaches(n, uses, 0, n-1) || scc.Reaches(n, uses, n-1, 0) {
		t.Error("reaches")
	}
}

// spare is a copy of uses whose lists, and itself, have room behind them.
func spare(uses [][]int) [][]int {
	out := slices.Grow([][]int{}, len(uses)+3)
	for _, l := range uses {
		out = append(out, append(slices.Grow([]int{}, len(l)+3), l...))
	}
	return out
}

// R4: what is handed in is not changed, its spare room neither.
func TestHandedIn(t *testing.T) {
	c := chance(3)
	for range 200 {
		n := 1 + c.below(9)
		uses := spare(c.made(n, 150))
		was := spare(uses)
		scc.Groups(n, uses)
		for i := range n {
			scc.Reaches(n, uses, i, c.below(n))
		}
		if !equal(uses[:len(was)], was) || slices.ContainsFunc(uses[len(uses):cap(uses)], func(l []int) bool { return l != nil }) {
			t.Fatal("changed:", was)
		}
		for _, l := range uses {
			if slices.ContainsFunc(l[len(l):cap(l)], func(i int) bool { return i != 0 }) {
				t.Fatal("spare room changed:", was)
			}
		}
	}
}

// R4, R5: what is answered is new memory, no two lists share any, and nothing is kept from call to call.
func TestAnswered(t *testing.T) {
	uses := [][]int{{1}, {0, 2}, {3}, {2}, {4}}
	want := [][]int{{2, 3}, {0, 1}, {4}, {5}}
	for range 3 {
		got := scc.Groups(6, uses)
		if !equal(got, want) {
			t.Fatal(got)
		}
		for i, l := range got {
			l = l[:cap(l)]
			for j := range l {
				l[j] = -9
			}
			if !equal(got[i+1:], want[i+1:]) {
				t.Fatal("lists share memory:", got)
			}
		}
		if !equal(uses, [][]int{{1}, {0, 2}, {3}, {2}, {4}}) {
			t.Fatal("shares memory with what was handed in:", uses)
		}
	}
}
