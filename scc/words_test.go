package scc_test

import (
	"slices"
	"testing"

	"fugue/scc"
)

// leads is who leads to whom by the chapter's words: who uses whom, and then by way of each thing in its turn.
func leads(n int, uses [][]int) [][]bool {
	to := make([][]bool, n)
	for i := range n {
		to[i] = make([]bool, n)
		to[i][i] = true
		if i >= len(uses) {
			continue
		}
		for _, u := range uses[i] {
			if 0 <= u && u < n {
				to[i][u] = true
			}
		}
	}
	for by := range n {
		for i := range n {
			for j := range n {
				to[i][j] = to[i][j] || to[i][by] && to[by][j]
			}
		}
	}
	return to
}

// row is the groups by the chapter's words: each time all things are gone through for the least one that may be told.
func row(n int, to [][]bool) [][]int {
	var row [][]int
	told := make([]bool, n)
	for done := 0; done < n; {
		i := 0
		for told[i] || !mayBeTold(to, told, i) {
			i++
		}
		var group []int
		for j := range n {
			if to[i][j] && to[j][i] {
				group = append(group, j)
				told[j] = true
			}
		}
		row = append(row, group)
		done += len(group)
	}
	return row
}

// mayBeTold tells whether all to which a thing leads are told, or of its group.
func mayBeTold(to [][]bool, told []bool, i int) bool {
	for j := range to {
		if to[i][j] && !to[j][i] && !told[j] {
			return false
		}
	}
	return true
}

// holds holds both functions against the chapter's words, and tells how many groups there are.
func holds(t *testing.T, n int, uses [][]int) int {
	t.Helper()
	to := leads(n, uses)
	got, want := scc.Groups(n, uses), row(n, to)
	if !equal(got, want) {
		t.Fatalf("%d, %v: %v, not %v", n, uses, got, want)
	}
	for i := range n {
		for j := range n {
			if scc.Reaches(n, uses, i, j) != to[i][j] {
				t.Fatalf("%d, %v: from %d to %d: %v", n, uses, i, j, !to[i][j])
			}
		}
	}
	return len(got)
}

// P7.1, P7.2: all that up to four things may use.
func TestAllUses(t *testing.T) {
	for n := range 5 {
		for set := range 1 << (n * n) {
			uses := make([][]int, n)
			for k := range n * n {
				if set>>k&1 == 1 {
					uses[k/n] = append(uses[k/n], k%n)
				}
			}
			holds(t, n, uses)
		}
	}
}

// chance is numbers that are the same ones each time.
type chance uint64

func (c *chance) below(n int) int {
	*c = *c*6364136223846793005 + 1442695040888963407
	return int(*c >> 33 % chance(n))
}

// made is uses of about so many each hundred things, with numbers and lists that are none of the things'.
func (c *chance) made(n, each int) [][]int {
	uses := make([][]int, c.below(n+3))
	for range n * each / 100 {
		if len(uses) > 0 {
			i := c.below(len(uses))
			uses[i] = append(uses[i], c.below(n+4)-2)
		}
	}
	return uses
}

// P7.1, P7.2: uses made by chance, few and many.
func TestMadeUses(t *testing.T) {
	c := chance(7)
	counts := map[string]int{}
	for range 4000 {
		n := 1 + c.below(14)
		switch groups := holds(t, n, c.made(n, 30+c.below(220))); {
		case groups == 1:
			counts["one"]++
		case groups == n:
			counts["each its own"]++
		case groups > 3:
			counts["some"]++
		}
	}
	if len(counts) < 3 || counts["some"] < 200 {
		t.Error("too few:", counts)
	}
}

// follows checks P7.3, and that the row of what may be told goes on rising wherever it may: each group that does not use
// the one ahead of it has a greater least thing.
func follows(t *testing.T, n int, uses [][]int) [][]int {
	t.Helper()
	got := scc.Groups(n, uses)
	place := slices.Repeat([]int{-1}, n)
	for at, group := range got {
		if len(group) == 0 || !slices.IsSorted(group) {
			t.Fatal("a group's things do not rise:", at)
		}
		for _, i := range group {
			if i < 0 || i >= n || place[i] >= 0 {
				t.Fatal("no thing, or told twice:", i)
			}
			place[i] = at
		}
	}
	if i := slices.Index(place, -1); i >= 0 {
		t.Fatal("not told:", i)
	}
	usesLast := make([]bool, len(got))
	for i := range min(n, len(uses)) {
		for _, u := range uses[i] {
			if 0 <= u && u < n && place[u] > place[i] {
				t.Fatal("ahead of what it uses:", i, u)
			} else if 0 <= u && u < n && place[u] == place[i]-1 {
				usesLast[place[i]] = true
			}
		}
	}
	for at := 1; at < len(got); at++ {
		if !usesLast[at] && got[at][0] < got[at-1][0] {
			t.Fatal("might have stood ahead:", at)
		}
	}
	return got
}

// P7.3: of many things.
func TestFollows(t *testing.T) {
	c := chance(11)
	for _, each := range []int{0, 40, 90, 120, 200, 600} {
		follows(t, 3000, c.made(3000, each))
	}
	for range 300 {
		n := 1 + c.below(80)
		follows(t, n, c.made(n, c.below(300)))
	}
}
