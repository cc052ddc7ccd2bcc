package entail

import (
	"fugue/api"
	"fugue/classes"
)

// search is what is known of how predicates hold, where some are given.
type search struct {
	*terms
	env   *classes.Env
	given []want
	of    map[int][]int              // of a type's number: the places of those that are given of it
	above map[string]map[string]bool // of classes of given ones: what is above them, and they themselves
	known map[key]way
}

// way is how a predicate holds, if it does.
type way struct {
	holds bool
	first api.Evid // what is given, or the instance
	kids  []want   // what the instance asks for
	path  []int    // up from what is given
}

func searchFrom(e *classes.Env, given []api.Pred) *search {
	s := &search{terms: newTerms(), env: e, of: map[int][]int{}, above: map[string]map[string]bool{}, known: map[key]way{}}
	for i, p := range given {
		w := s.want(p)
		s.given = append(s.given, w)
		s.of[w.number] = append(s.of[w.number], i)
	}
	return s
}

// holds keeps what it found, as predicates may ask for one and the same far more often than there are predicates.
func (s *search) holds(w want) bool {
	known, has := s.known[w.key()]
	if !has {
		known = s.find(w)
		s.known[w.key()] = known
	}
	return known.holds
}

func (s *search) find(w want) way {
	for _, i := range s.of[w.number] {
		if s.leads(s.given[i].class, w.class) {
			path, _ := s.env.Path(s.given[i].class, w.class)
			return way{holds: true, first: api.Evid{Form: api.VGiven, N: i}, path: path}
		}
	}
	n, kids, is := s.rule(s.env, w)
	if !is {
		return way{}
	}
	for _, kid := range kids {
		if !s.holds(kid) {
			return way{}
		}
	}
	return way{holds: true, first: api.Evid{Form: api.VInst, N: n}, kids: kids}
}

// leads tells whether there is a way up from a class to another one.
func (s *search) leads(from, to string) bool {
	above, has := s.above[from]
	if !has {
		above = map[string]bool{}
		for _, class := range s.env.Above(from) {
			above[class] = true
		}
		s.above[from] = above
	}
	return above[to]
}

// evidence is of what holds.
func (s *search) evidence(w want) api.Evid {
	known := s.known[w.key()]
	v := known.first
	for _, kid := range known.kids {
		v.Kids = append(v.Kids, s.evidence(kid))
	}
	for i := range len(known.path) {
		v = api.Evid{Form: api.VSuper, N: known.path[i], Kids: []api.Evid{v}}
	}
	return v
}

// check looks at evidence.
type check struct {
	*terms
	env   *classes.Env
	given []want
}

// of is the class in which a type is by evidence, if that is any of it.
func (c *check) of(x term, v api.Evid) (string, bool) {
	switch v.Form {
	case api.VGiven:
		if v.N < 0 || v.N >= len(c.given) || len(v.Kids) > 0 {
			return "", false
		}
		return c.given[v.N].class, c.given[v.N].number == x.number
	case api.VSuper:
		return c.super(x, v)
	case api.VInst:
		return c.inst(x, v)
	}
	return "", false
}

func (c *check) super(x term, v api.Evid) (string, bool) {
	if len(v.Kids) != 1 {
		return "", false
	}
	below, is := c.of(x, v.Kids[0])
	if !is {
		return "", false
	}
	class, _ := c.env.Class(below)
	if v.N < 0 || v.N >= len(class.Supers) {
		return "", false
	}
	return class.Supers[v.N], true
}

func (c *check) inst(x term, v api.Evid) (string, bool) {
	if v.N < 0 || v.N >= c.env.Len() {
		return "", false
	}
	inst := c.env.At(v.N)
	first, args := c.spine(x)
	if first.Form != api.TCon || first.Name != inst.Con {
		return "", false
	}
	kids, is := asks(inst, args)
	if !is || len(kids) != len(v.Kids) {
		return "", false
	}
	for i, kid := range kids {
		if class, is := c.of(kid.term, v.Kids[i]); !is || class != kid.class {
			return "", false
		}
	}
	return inst.Class, true
}
