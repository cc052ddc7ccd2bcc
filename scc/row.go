package scc

import (
	"container/heap"
	"sort"
)

// leastFirst is numbers of which the least one comes out first.
type leastFirst struct{ sort.IntSlice }

func (l *leastFirst) Push(x any) { l.IntSlice = append(l.IntSlice, x.(int)) }

func (l *leastFirst) Pop() any {
	n := len(l.IntSlice) - 1
	last := l.IntSlice[n]
	l.IntSlice = l.IntSlice[:n]
	return last
}

// inRow puts groups, which stand by their least things, into the row in which they are told; used tells of each which
// others it uses, and is used up.
func inRow(groups, used [][]int) [][]int {
	row := make([][]int, 0, len(groups))
	told := make([]bool, len(groups))
	waiting := make([][]int, len(groups)) // of each: which others are to be asked when it is told
	// A group whose time has not come waits for one that it uses, and is asked no more till that is told: so each use is
	// looked at once, where asking all of them behind each group would look at them as often as there are groups.
	hasCome := func(g int) bool {
		for ; len(used[g]) > 0; used[g] = used[g][1:] {
			if other := used[g][0]; !told[other] {
				waiting[other] = append(waiting[other], g)
				return false
			}
		}
		return true
	}
	ask := &leastFirst{}
	for g := range groups {
		heap.Push(ask, g)
	}
anew:
	for {
		for ask.Len() > 0 {
			g := heap.Pop(ask).(int)
			if hasCome(g) {
				told[g] = true
				row = append(row, groups[g])
				for _, other := range waiting[g] {
					heap.Push(ask, other)
				}
				continue anew
			}
		}
		return row
	}
}
