package kinds

import "fugue/api"

// Term is a kind of which something may not be known yet.
type Term struct {
	Form int
	N    int
	Args []Term
}

// What a term is: a variable (N), the kind of types, an arrow (two Args).
const (
	KVar = 1 + iota
	KStar
	KArrow
)

// Of is a kind as a term.
func Of(k api.Kind) Term {
	t := Term{Form: KStar}
	for i := len(k.From) - 1; i >= 0; i-- {
		t = arrow(Of(k.From[i]), t)
	}
	return t
}

// Solver finds kinds.
type Solver struct {
	made int // how many variables are made

	// What is known of variables, by their numbers: another variable, the kind of types, or an arrow.
	// What stands within such an arrow is no arrow itself, but an inner variable (of a number below 0)
	// that is known to be one: so it has a name by which it is known to be one with another, and is
	// gone through once. Else x = y -> y, y = z -> z and so on would double with each variable.
	known map[int]Term
}

// New is a solver that knows nothing.
func New() *Solver { return &Solver{known: map[int]Term{}} }

// Fresh is a variable that is new.
func (s *Solver) Fresh() Term {
	s.made++
	return variable(s.made)
}

// Equal makes two terms one.
func (s *Solver) Equal(a, b Term) api.Errno {
	if !fits(a) || !fits(b) {
		return api.ErrArg
	}
	t := trial{Solver: s}
	e := t.unify(a, b)
	if e != api.OK {
		t.undo()
	}
	return e
}

// Kind is a term's kind: of what is not known, the kind of types.
func (s *Solver) Kind(t Term) api.Kind {
	var from []api.Kind
	for t = s.look(t); t.Form == KArrow && len(t.Args) == 2; t = s.look(t.Args[1]) {
		from = append(from, s.Kind(t.Args[0]))
	}
	return api.Kind{From: from}
}

// look is what a term is known to be: no variable, unless nothing is known of it.
func (s *Solver) look(t Term) Term {
	for t.Form == KVar {
		next, ok := s.known[t.N]
		if !ok {
			return t
		}
		t = next
	}
	return t
}

// root is a term itself, but of a variable the last one that it is known to be.
func (s *Solver) root(t Term) Term {
	for t.Form == KVar && s.known[t.N].Form == KVar {
		t = s.known[t.N]
	}
	return t
}

// within tells whether the variable n, of which nothing is known, is a term, or within it, with all
// that is known; what stands in seen has been gone through.
func (s *Solver) within(n int, t Term, seen map[int]bool) bool {
	if t.Form == KVar {
		next, ok := s.known[t.N]
		if !ok || seen[t.N] {
			return t.N == n
		}
		seen[t.N] = true
		return s.within(n, next, seen)
	}
	for _, a := range t.Args {
		if s.within(n, a, seen) {
			return true
		}
	}
	return false
}

// fits tells whether a term may be handed in: inner variables may not.
func fits(t Term) bool {
	switch t.Form {
	case KVar:
		return t.N >= 1 && len(t.Args) == 0
	case KStar:
		return len(t.Args) == 0
	case KArrow:
		return len(t.Args) == 2 && fits(t.Args[0]) && fits(t.Args[1])
	}
	return false
}

func variable(n int) Term { return Term{Form: KVar, N: n} }

func arrow(from, to Term) Term { return Term{Form: KArrow, Args: []Term{from, to}} }
