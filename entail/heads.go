package entail

import (
	"fugue/api"
	"fugue/classes"
)

// heads is what is found by which predicates hold.
type heads struct {
	*terms
	env  *classes.Env
	seen map[key]bool
	out  []want
}

// headsOf is Head's, or that there are none.
func headsOf(e *classes.Env, l []api.Pred) ([]want, bool) {
	h := &heads{terms: newTerms(), env: e, seen: map[key]bool{}}
	for _, p := range l {
		if !h.add(h.want(p)) {
			return nil, false
		}
	}
	return h.out, true
}

// add goes to each predicate once alone: behind that all that it leads to is there already.
func (h *heads) add(w want) bool {
	if h.seen[w.key()] {
		return true
	}
	h.seen[w.key()] = true
	if isHead(w.t) {
		h.out = append(h.out, w)
		return true
	}
	_, kids, is := h.rule(h.env, w)
	if !is {
		return false
	}
	for _, kid := range kids {
		if !h.add(kid) {
			return false
		}
	}
	return true
}

func isHead(t api.Type) bool {
	for applied(t) {
		t = t.Args[0]
	}
	return t.Form == api.TVar || t.Form == api.TMeta
}
