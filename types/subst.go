package types

import (
	"maps"
	"slices"

	"fugue/api"
	"fugue/chars"
)

// Subst puts types in the place of variables.
func Subst(t api.Type, names []string, by []api.Type) api.Type {
	s := newSubst(t)
	var all []*put
	for i := range min(len(names), len(by)) {
		x := newPut(names[i], by[i])
		s.puts[x.name] = x
		all = append(all, x)
	}
	return s.in(t, all)
}

// put is a type that is put in the place of a variable, and what is free in it.
type put struct {
	name string
	by   api.Type
	free map[string]bool
}

func newPut(name string, by api.Type) *put {
	x := &put{name, by, map[string]bool{}}
	for _, f := range Free(by) {
		x.free[f] = true
	}
	return x
}

// subst goes through a type from the outside and the left. What is free in a body is asked at every TAll: the
// type's layout tells it, as to go through each body for it would take the square of their depth.
type subst struct {
	*layout
	places map[string][]int // of each variable: where it stands among vars, rising
	puts   map[string]*put  // of each variable: what is put in its place here, if not nil
	behind int              // how many variables were come by
	opened int              // how many TAlls were come by
	depth  int              // how many TAlls are around
}

func newSubst(t api.Type) *subst {
	s := &subst{layout: layoutOf(t), places: map[string][]int{}, puts: map[string]*put{}}
	for i, v := range s.vars {
		s.places[v.name] = append(s.places[v.name], i)
	}
	return s
}

// in puts into a type what is put in its variables' places; into is all that may be put there.
func (s *subst) in(t api.Type, into []*put) api.Type {
	switch t.Form {
	case api.TVar:
		s.behind++
		if x := s.puts[t.Name]; x != nil {
			return own(x.by)
		}
		return own(t)
	case api.TAll:
		return s.inAll(t, into)
	}
	t.Args = s.inEach(t.Args, into)
	return t
}

func (s *subst) inEach(l []api.Type, into []*put) []api.Type {
	if len(l) == 0 {
		return nil
	}
	out := make([]api.Type, len(l))
	for i, t := range l {
		out[i] = s.in(t, into)
	}
	return out
}

// inAll puts into a TAll's body, under another name where its own one would catch what is put in.
func (s *subst) inAll(t api.Type, into []*put) api.Type {
	end := s.ends[s.opened]
	s.opened++
	s.depth++
	name, outer := t.Name, s.puts[t.Name]
	s.puts[name] = nil
	idle := func(x *put) bool { return x.name == name || !s.free(x.name, end) }
	if slices.ContainsFunc(into, idle) {
		into = slices.DeleteFunc(slices.Clone(into), idle)
	}
	if slices.ContainsFunc(into, func(x *put) bool { return x.free[name] }) {
		t.Name = s.letter(end, into)
		s.puts[name] = newPut(name, Var(t.Name))
		// This may stand in the room behind what was handed in: nobody else uses that till this TAll is done.
		into = append(into, s.puts[name])
	}
	t.Args = s.inEach(t.Args, into)
	s.puts[name] = outer
	s.depth--
	return t
}

// free tells whether a variable is free in the body that begins here.
func (s *subst) free(name string, end int) bool {
	places := s.places[name]
	from, _ := slices.BinarySearch(places, s.behind)
	for _, at := range places[from:] {
		if at >= end {
			break
		}
		if s.vars[at].depth <= s.depth {
			return true
		}
	}
	return false
}

// letter is the first of the letters that is free neither in the body that begins here nor in what is put there.
func (s *subst) letter(end int, into []*put) string {
	taken := map[string]bool{}
	for _, x := range into {
		maps.Copy(taken, x.free)
	}
	most := len(s.places) + len(taken) // so many names take no more letters
	for i := range most {
		if name := chars.Letters(i); !taken[name] && !s.free(name, end) {
			return name
		}
	}
	return chars.Letters(most)
}
