package scc

import "math"

// search finds which things lead to one another, by Tarjan's way. It keeps the path itself, and does not call itself,
// as a path may be as long as there are things.
type search struct {
	things
	count int
	come  []int  // of each thing: as which one it was come to, from 1 on; 0: not yet
	least []int  // of each open thing: the least come of the open ones to which it is known to lead
	open  []int  // those that were come to, and are in no group yet
	path  []step // from the thing that was begun with to the one that is gone through
	root  []int  // of each thing: the one of its group that was come to first
}

// step is a thing on the path, and what it uses that was not looked at yet.
type step struct {
	thing int
	left  []int
}

// closed is the least of things that are in a group: no other one's is changed by it.
const closed = math.MaxInt

// roots is, of each thing, one of its group, the same of all in it.
func (t things) roots() []int {
	s := search{things: t, come: make([]int, t.n), least: make([]int, t.n), root: make([]int, t.n)}
	for thing := range t.n {
		if s.come[thing] == 0 {
			s.from(thing)
		}
	}
	return s.root
}

// from goes to all things to which one leads and that were not come to yet.
func (s *search) from(thing int) {
	s.enter(thing)
	for len(s.path) > 0 {
		last := &s.path[len(s.path)-1]
		if len(last.left) == 0 {
			s.leave()
			continue
		}
		used := last.left[0]
		last.left = last.left[1:]
		switch {
		case !s.has(used):
		case s.come[used] == 0:
			s.enter(used)
		default:
			s.leads(last.thing, used)
		}
	}
}

// enter puts a thing on the path.
func (s *search) enter(thing int) {
	s.count++
	s.come[thing], s.least[thing] = s.count, s.count
	s.open = append(s.open, thing)
	s.path = append(s.path, step{thing: thing, left: s.list(thing)})
}

// leave takes the last thing from the path.
func (s *search) leave() {
	n := len(s.path) - 1
	thing := s.path[n].thing
	s.path = s.path[:n]
	if s.least[thing] == s.come[thing] {
		s.close(thing)
	}
	if n > 0 {
		s.leads(s.path[n-1].thing, thing)
	}
}

func (s *search) leads(thing, used int) {
	s.least[thing] = min(s.least[thing], s.least[used])
}

// close makes a group of what is open from a thing on.
func (s *search) close(thing int) {
	for {
		n := len(s.open) - 1
		last := s.open[n]
		s.open = s.open[:n]
		s.least[last], s.root[last] = closed, thing
		if last == thing {
			return
		}
	}
}

// numbered is the groups, by their least things, the things of each rising; and of each thing its group's number.
func numbered(root []int) ([][]int, []int) {
	var groups [][]int
	number := make([]int, len(root)) // of a root: its group's, from 1 on
	in := make([]int, len(root))
	for thing, r := range root {
		if number[r] == 0 {
			groups = append(groups, nil)
			number[r] = len(groups)
		}
		g := number[r] - 1
		groups[g] = append(groups[g], thing)
		in[thing] = g
	}
	return groups, in
}
