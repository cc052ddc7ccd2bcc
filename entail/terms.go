package entail

import (
	"slices"

	"fugue/api"
	"fugue/classes"
)

// term is a type, and its number: types that are the same have one number.
type term struct {
	t      api.Type
	number int
}

// node is what a type is, by the numbers of what is in it.
type node struct {
	form, n     int
	name        string
	left, right int
}

// outer is the form of a variable that a TAll around it gives; n: how many TAlls came behind that one.
const outer = -1

// terms gives types their numbers.
type terms struct {
	numbers map[node]int
	nodes   []node
	alls    int            // how many TAlls have come
	names   map[string]int // of names of TAlls around: how many had come with that one
}

func newTerms() *terms { return &terms{numbers: map[node]int{}, names: map[string]int{}} }

func (s *terms) term(t api.Type) term { return term{t, s.number(t)} }

func (s *terms) number(t api.Type) int {
	switch {
	case applied(t):
		return s.put(node{form: t.Form, left: s.number(t.Args[0]), right: s.number(t.Args[1])})
	case t.Form == api.TAll && len(t.Args) == 1:
		return s.put(node{form: t.Form, left: s.within(t.Name, t.Args[0])})
	case t.Form == api.TVar && s.names[t.Name] > 0:
		return s.put(node{form: outer, n: s.alls - s.names[t.Name]})
	}
	return s.put(node{form: t.Form, n: t.N, name: t.Name})
}

// within is the number of what stands within a TAll of a name.
func (s *terms) within(name string, body api.Type) int {
	s.alls++
	was := s.names[name]
	s.names[name] = s.alls
	n := s.number(body)
	s.names[name] = was
	return n
}

func (s *terms) put(x node) int {
	n, has := s.numbers[x]
	if !has {
		n = len(s.nodes)
		s.numbers[x] = n
		s.nodes = append(s.nodes, x)
	}
	return n
}

// spine is types.Spine, in the memory of what is handed in.
func (s *terms) spine(x term) (api.Type, []term) {
	var args []term
	for applied(x.t) {
		n := s.nodes[x.number]
		args = append(args, term{x.t.Args[1], n.right})
		x = term{x.t.Args[0], n.left}
	}
	slices.Reverse(args)
	return x.t, args
}

func applied(t api.Type) bool { return t.Form == api.TApp && len(t.Args) == 2 }

// want is a predicate that is to hold.
type want struct {
	class string
	term
}

// key is a want, to be told from others.
type key struct {
	class  string
	number int
}

func (s *terms) want(p api.Pred) want { return want{p.Class, s.term(p.Type)} }

func (w want) key() key { return key{w.class, w.number} }

// rule is the place of the instance by which a predicate may hold, and what it asks for.
func (s *terms) rule(e *classes.Env, w want) (int, []want, bool) {
	first, args := s.spine(w.term)
	if first.Form != api.TCon {
		return 0, nil, false
	}
	n, has := e.Inst(w.class, first.Name)
	if !has {
		return 0, nil, false
	}
	kids, is := asks(e.At(n), args)
	return n, kids, is
}

// asks is an instance's Preds, types put in the place of its Vars.
func asks(x api.Inst, args []term) ([]want, bool) {
	if len(args) != len(x.Vars) {
		return nil, false
	}
	places := map[string]int{}
	for i, name := range x.Vars {
		places[name] = i
	}
	var l []want
	for _, p := range x.Preds {
		i, has := places[p.Type.Name]
		// Asked of anything but a variable, predicates might lead on without an end.
		if !has || p.Type.Form != api.TVar {
			return nil, false
		}
		l = append(l, want{p.Class, args[i]})
	}
	return l, true
}
