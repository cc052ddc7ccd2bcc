package unify_test

import (
	"maps"
	"reflect"
	"slices"
	"strconv"

	"fugue/api"
	"fugue/unify"
)

// Types, written out as the document's words have them.
func meta(n int) api.Type            { return api.Type{Form: api.TMeta, N: n} }
func tv(name string) api.Type        { return api.Type{Form: api.TVar, Name: name} }
func con(name string) api.Type       { return api.Type{Form: api.TCon, Name: name} }
func app(f, a api.Type) api.Type     { return api.Type{Form: api.TApp, Args: []api.Type{f, a}} }
func fun(from, to api.Type) api.Type { return app(app(con("->"), from), to) }
func list(t api.Type) api.Type       { return app(con("L"), t) }
func all(name string, body api.Type) api.Type {
	return api.Type{Form: api.TAll, Name: name, Args: []api.Type{body}}
}

var (
	a, b, integer  = tv("a"), tv("b"), con("Int")
	m1, m2, m3, m4 = meta(1), meta(2), meta(3), meta(4)
)

// row is a type of these leaves, one given to those ahead of it.
func row(leaves ...api.Type) api.Type {
	t := leaves[0]
	for _, l := range leaves[1:] {
		t = app(t, l)
	}
	return t
}

// wide is a row of one leaf, so many times.
func wide(many int, leaf api.Type) api.Type { return row(slices.Repeat([]api.Type{leaf}, many)...) }

// sized is all types of so many nodes of these leaves, and of TAlls of these names; by their number of nodes.
func sized(most int, leaves []api.Type, names ...string) [][]api.Type {
	out := [][]api.Type{nil, leaves}
	for n := 2; n <= most; n++ {
		var l []api.Type
		for _, name := range names {
			for _, t := range out[n-1] {
				l = append(l, all(name, t))
			}
		}
		for i := 1; i < n-1; i++ {
			for _, f := range out[i] {
				for _, t := range out[n-1-i] {
					l = append(l, app(f, t))
				}
			}
		}
		out = append(out, l)
	}
	return out
}

// equal tells whether two types are written alike, names and all; nil and empty lists are one.
func equal(x, y api.Type) bool {
	return x.Form == y.Form && x.N == y.N && x.Name == y.Name && slices.EqualFunc(x.Args, y.Args, equal)
}

// nameless is a type in which each name that a TAll gives is told by how many TAlls are between: two types are
// the same, if they are so told alike.
func nameless(t api.Type, around ...string) string {
	switch t.Form {
	case api.TMeta:
		return "?" + strconv.Itoa(t.N)
	case api.TVar:
		for i, name := range slices.Backward(around) {
			if name == t.Name {
				return "#" + strconv.Itoa(len(around)-1-i)
			}
		}
		return "v:" + t.Name
	case api.TCon:
		return "C:" + t.Name
	case api.TApp:
		return "(" + nameless(t.Args[0], around...) + " " + nameless(t.Args[1], around...) + ")"
	case api.TAll:
		return "[" + nameless(t.Args[0], append(slices.Clone(around), t.Name)...) + "]"
	}
	return "none"
}

func same(x, y api.Type) bool { return nameless(x) == nameless(y) }

// size is how many TMetas, TVars, TCons and TAlls there are.
func size(t api.Type) int {
	n := 0
	if t.Form != api.TApp {
		n = 1
	}
	for _, x := range t.Args {
		n += size(x)
	}
	return n
}

func has(t api.Type, n int) bool {
	return t.Form == api.TMeta && t.N == n || slices.ContainsFunc(t.Args, func(x api.Type) bool { return has(x, n) })
}

// said is what is known by the document's words, as they stand: of numbers, which types they are.
type said map[int]api.Type

// put is a type with all that is known.
func (s said) put(t api.Type) api.Type {
	if x, ok := s[t.N]; ok && t.Form == api.TMeta {
		return s.put(x)
	}
	var args []api.Type
	for _, x := range t.Args {
		args = append(args, s.put(x))
	}
	t.Args = args
	return t
}

// learn is what is known, if a number is known to be a type, too.
func (s said) learn(n int, t api.Type) (said, api.Errno) {
	if has(s.put(t), n) {
		return nil, api.ErrLoop
	}
	next := maps.Clone(s)
	next[n] = t
	for k := range next {
		if size(next.put(meta(k))) > api.MaxType {
			return nil, api.ErrTooGreat
		}
	}
	return next, api.OK
}

// one is what is known when two types are made one.
func (s said) one(x, y api.Type) (said, api.Errno) {
	x, y = s.put(x), s.put(y)
	switch {
	case x.Form == api.TMeta && y.Form == api.TMeta && x.N == y.N:
		return s, api.OK
	case x.Form == api.TMeta && y.Form == api.TMeta:
		return s.learn(max(x.N, y.N), meta(min(x.N, y.N)))
	case x.Form == api.TMeta:
		return s.learn(x.N, y)
	case y.Form == api.TMeta:
		return s.learn(y.N, x)
	case x.Form == api.TApp && y.Form == api.TApp:
		next, e := s.one(x.Args[0], y.Args[0])
		if e != api.OK {
			return nil, e
		}
		return next.one(x.Args[1], y.Args[1])
	case same(x, y):
		return s, api.OK
	}
	return nil, api.ErrUnify
}

// unify is Unify: what is known then, or the same as before.
func (s said) unify(x, y api.Type) (said, api.Errno) {
	next, e := s.one(x, y)
	if e == api.OK && !same(next.put(x), next.put(y)) { // P9.4: not behind an OK
		e = api.ErrUnify
	}
	if e != api.OK {
		return s, e
	}
	return next, api.OK
}

// knows tells whether a Subst knows this, and nothing more.
func knows(s *unify.Subst, want said) bool {
	if !slices.Equal(s.Known(), slices.Sorted(maps.Keys(want))) {
		return false
	}
	for n := range want {
		if !equal(s.Apply(meta(n)), want.put(meta(n))) {
			return false
		}
	}
	return true
}

// chance is a row of numbers that is always the same one.
type chance uint64

func (r *chance) next(n int) int {
	*r = *r*6364136223846793005 + 1442695040888963407
	return int(uint64(*r)>>33) % n
}

// some is a type of about so many nodes, of numbers up to metas.
func (r *chance) some(size, metas int) api.Type {
	if size <= 1 {
		switch r.next(8) {
		case 0:
			return integer
		case 1:
			return con("L")
		case 2:
			return a
		case 3:
			return b
		}
		return meta(1 + r.next(metas))
	}
	if r.next(6) == 0 {
		return all([]string{"a", "b", "c"}[r.next(3)], r.some(size-1, metas))
	}
	left := 1 + r.next(size-1)
	return app(r.some(left, metas), r.some(size-left, metas))
}

// near is a type, in which here and there something else stands.
func (r *chance) near(t api.Type, metas int) api.Type {
	if r.next(5) == 0 {
		return r.some(1+r.next(3), metas)
	}
	if t.Form == api.TAll && r.next(2) == 0 {
		name := []string{"a", "b", "c"}[r.next(3)]
		return all(name, r.near(renamed(t.Args[0], t.Name, name), metas))
	}
	var args []api.Type
	for _, x := range t.Args {
		args = append(args, r.near(x, metas))
	}
	t.Args = args
	return t
}

// renamed has another name for a variable wherever that stands.
func renamed(t api.Type, name, by string) api.Type {
	if t.Form != api.TCon && t.Name == name {
		t.Name = by
	}
	var args []api.Type
	for _, x := range t.Args {
		args = append(args, renamed(x, name, by))
	}
	t.Args = args
	return t
}

// spoil overwrites a type's memory, at every depth, its spare room, too.
func spoil(t api.Type) {
	for i := range t.Args {
		spoil(t.Args[i])
	}
	for i := range t.Args[:cap(t.Args)] {
		t.Args[:cap(t.Args)][i] = con("Spoilt")
	}
}

// roomy is a type whose lists have spare room, at every depth, which holds something.
func roomy(t api.Type) api.Type {
	out := make([]api.Type, len(t.Args), len(t.Args)+2)
	for i := range t.Args {
		out[i] = roomy(t.Args[i])
	}
	for i := len(t.Args); i < cap(out); i++ {
		out[:cap(out)][i] = con("Room")
	}
	t.Args = out
	return t
}

// kept tells whether what roomy gave is as it was, its spare room, too.
func kept(t, was api.Type) bool {
	if t.Form != was.Form || t.N != was.N || t.Name != was.Name || len(t.Args) != len(was.Args) {
		return false
	}
	for i, x := range t.Args[:cap(t.Args)] {
		if i < len(t.Args) && !kept(x, was.Args[i]) || i >= len(t.Args) && !reflect.DeepEqual(x, con("Room")) {
			return false
		}
	}
	return true
}

// apart tells whether no two lists of these types share memory: each thing is at a place of its own.
func apart(l ...api.Type) bool {
	seen := map[*api.Type]bool{}
	var look func(t api.Type) bool
	look = func(t api.Type) bool {
		for i := range t.Args[:cap(t.Args)] {
			p := &t.Args[:cap(t.Args)][i]
			if seen[p] {
				return false
			}
			seen[p] = true
		}
		return !slices.ContainsFunc(t.Args, func(x api.Type) bool { return !look(x) })
	}
	return !slices.ContainsFunc(l, func(t api.Type) bool { return !look(t) })
}
