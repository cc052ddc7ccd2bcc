package unify

import (
	"iter"

	"fugue/api"
	"fugue/types"
)

// part is numbers that are known to be one, and what they are known to be.
type part struct {
	// The part that this one has become a part of; nil: of none. The lighter one goes into the heavier one, so
	// that there are few between; which number the others are known to be is another thing (least).
	up    *part
	many  int // how many numbers there are
	least int // the lowest of them: what they are, if no more is known

	is bool     // whether they are known to be a type that is no number
	t  api.Type // that type, as it was learnt: of its numbers more may be known since

	// The Size that they are of, with all that is known; and the parts in whose types they stand, each as often
	// as they do. What grows is found by these: to ask all that is known would take the square of it.
	size  int
	users []*part
}

func (p *part) weight() int { return p.many + len(p.users) }

// find is the part in which a number is; nil, if nothing was learnt of it.
func (s *Subst) find(n int) *part {
	p := s.parts[n]
	for p != nil && p.up != nil {
		p = p.up
	}
	return p
}

// look is what a type is known to be, from the outside: no number, unless it is the lowest of its part, and no more
// is known of that.
func (s *Subst) look(t api.Type) api.Type {
	if t.Form != api.TMeta {
		return t
	}
	p := s.find(t.N)
	switch {
	case p == nil:
		return t
	case p.is:
		return p.t
	}
	return types.Meta(p.least)
}

// within tells whether the number n, which look has told, is within a type with all that is known; the types of
// the parts whose lowest numbers are in seen have been gone through.
func (s *Subst) within(n int, t api.Type, seen map[int]bool) bool {
	for m := range numbers(t) {
		p := s.find(m)
		if m == n || p != nil && p.least == n {
			return true
		}
		if p != nil && p.is && !seen[p.least] {
			seen[p.least] = true
			if s.within(n, p.t, seen) {
				return true
			}
		}
	}
	return false
}

// size is the Size of a type with all that is known.
func (s *Subst) size(t api.Type) int {
	size := types.Size(t)
	for n := range numbers(t) {
		if p := s.find(n); p != nil {
			size += p.size - 1
		}
	}
	return size
}

// grow adds to the size of each part, each time, and to those of their users, and tells the greatest that came of it.
func grow(parts []*part, by int) int {
	if by == 0 {
		return 0
	}
	greatest := 0
	for _, p := range parts {
		p.size += by
		greatest = max(greatest, p.size, grow(p.users, by))
	}
	return greatest
}

// numbers tells the numbers that stand in a type, from the left, each as often as it does.
func numbers(t api.Type) iter.Seq[int] {
	return func(yield func(n int) bool) { tell(t, yield) }
}

func tell(t api.Type, yield func(n int) bool) bool {
	if t.Form == api.TMeta {
		return yield(t.N)
	}
	for _, a := range t.Args {
		if !tell(a, yield) {
			return false
		}
	}
	return true
}
