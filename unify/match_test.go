package unify_test

import (
	"slices"
	"testing"

	"fugue/api"
	"fugue/types"
	"fugue/unify"
)

// P9.3: what stands in the place of names, or that nothing makes the pattern the type.
func TestMatch(t *testing.T) {
	var none api.Type
	c := tv("c")
	for i, x := range []struct {
		names      []string
		pattern, t api.Type
		want       []api.Type
		is         bool
	}{
		{nil, a, a, nil, true}, {nil, a, b, nil, false}, {nil, integer, integer, nil, true}, {nil, integer, a, nil, false}, {nil, tv("x"), con("x"), nil, false},
		{[]string{"a"}, a, integer, []api.Type{integer}, true}, {[]string{"a"}, a, a, []api.Type{a}, true}, {[]string{"a"}, a, b, []api.Type{b}, true},
		{[]string{"a"}, a, list(a), []api.Type{list(a)}, true}, {[]string{"a"}, a, m1, []api.Type{m1}, true}, {[]string{"a"}, a, all("a", a), []api.Type{all("a", a)}, true},
		{[]string{"a"}, con("a"), integer, nil, false}, {[]string{"Int"}, integer, con("Bool"), nil, false}, {[]string{"a"}, b, integer, nil, false},
		// Names, in their row; those that do not come have the zero type.
		{[]string{"a", "b"}, fun(a, b), fun(integer, c), []api.Type{integer, c}, true},
		{[]string{"b", "a"}, fun(a, b), fun(integer, c), []api.Type{c, integer}, true},
		{[]string{"x", "b", "y", "a", "z"}, fun(a, b), fun(integer, c), []api.Type{none, c, none, integer, none}, true},
		{[]string{"b"}, fun(a, b), fun(integer, c), nil, false}, {[]string{"b"}, fun(a, b), fun(a, c), []api.Type{c}, true},
		{[]string{"a"}, integer, integer, []api.Type{none}, true}, {[]string{""}, integer, integer, []api.Type{none}, true},
		// One name, one type; all are put in at once.
		{[]string{"a"}, fun(a, a), fun(list(b), list(b)), []api.Type{list(b)}, true}, {[]string{"a"}, fun(a, a), fun(integer, b), nil, false},
		{[]string{"a"}, fun(a, a), fun(m1, m2), nil, false}, {[]string{"a"}, fun(a, a), fun(m1, m1), []api.Type{m1}, true},
		{[]string{"a", "b"}, fun(a, b), fun(b, a), []api.Type{b, a}, true}, {[]string{"a", "b"}, fun(a, fun(b, a)), fun(b, fun(a, b)), []api.Type{b, a}, true},
		{[]string{"a", "b"}, fun(a, fun(b, a)), fun(b, fun(a, a)), nil, false}, {[]string{"a"}, fun(a, list(a)), fun(list(a), list(list(a))), []api.Type{list(a)}, true},
		// What is given things may be a name, too.
		{[]string{"a", "b"}, app(a, b), fun(integer, c), []api.Type{app(con("->"), integer), c}, true}, {[]string{"a"}, app(a, b), list(b), []api.Type{con("L")}, true},
		{[]string{"a"}, app(a, integer), integer, nil, false}, {[]string{"a"}, list(a), fun(a, a), nil, false}, {[]string{"a"}, list(a), integer, nil, false},
		// Numbers are but themselves.
		{nil, m1, m1, nil, true}, {nil, m1, m2, nil, false}, {nil, m1, integer, nil, false}, {nil, integer, m1, nil, false}, {[]string{"a"}, fun(m1, a), fun(m1, m2), []api.Type{m2}, true},
		{[]string{"a"}, fun(m1, a), fun(m2, m1), nil, false}, {[]string{""}, m1, m2, nil, false}, {[]string{""}, m1, m1, []api.Type{none}, true},
		// TAlls stand in the place of names; they are the same, but for names, and the first one is told.
		{[]string{"a"}, fun(a, a), fun(all("a", a), all("b", b)), []api.Type{all("a", a)}, true}, {[]string{"a"}, fun(a, a), fun(all("a", a), all("b", a)), nil, false},
		{[]string{"a"}, list(a), all("a", list(a)), nil, false}, {nil, a, all("a", a), nil, false},
	} {
		by, is := unify.Match(x.names, x.pattern, x.t)
		if is != x.is || !slices.EqualFunc(by, x.want, equal) {
			t.Errorf("%d: %v, %v", i, by, is)
		}
	}
}

// P9.3: all small patterns and types: each that is told makes the two the same, and where none is told none does.
func TestMatchOfAll(t *testing.T) {
	var patterns, some []api.Type
	for _, l := range sized(5, []api.Type{a, b, integer, m1}) {
		patterns = append(patterns, l...)
	}
	for _, l := range sized(4, []api.Type{a, b, integer, m1}, "a", "b") {
		some = append(some, l...)
	}
	for _, names := range [][]string{nil, {"a"}, {"b"}, {"a", "b"}, {"b", "c", "a"}} {
		for _, p := range patterns {
			for i, x := range some {
				if y := subst(p, names, some[(i*7)%len(some)], some[(i*5+3)%len(some)]); i%4 == 0 {
					x = y
				}
				by, is := unify.Match(names, p, x)
				want, may := parts(names, p, x)
				if is != may || is && !slices.EqualFunc(by, want, equal) || !is && len(by) != 0 {
					t.Fatalf("%v, %s, %s: %v, %v", names, types.Print(p), types.Print(x), by, is)
				}
				if is && !types.Same(types.Subst(p, names, by), x) {
					t.Fatalf("%v, %s, %s: %v", names, types.Print(p), types.Print(x), by)
				}
			}
		}
	}
}

// subst is a type with two types in the place of the names' first and last one.
func subst(t api.Type, names []string, first, last api.Type) api.Type {
	if t.Form == api.TVar && len(names) > 0 && t.Name == names[0] {
		return first
	}
	if t.Form == api.TVar && len(names) > 0 && t.Name == names[len(names)-1] {
		return last
	}
	if t.Form == api.TApp {
		return app(subst(t.Args[0], names, first, last), subst(t.Args[1], names, first, last))
	}
	return t
}

// parts is Match another way: what stands in a name's place is found first, and then all is put in and looked at.
func parts(names []string, p, t api.Type) ([]api.Type, bool) {
	by := make([]api.Type, len(names))
	var find func(p, t api.Type)
	find = func(p, t api.Type) {
		if i := slices.Index(names, p.Name); p.Form == api.TVar && i >= 0 && by[i].Form == 0 {
			by[i] = t
		}
		for i := range min(len(p.Args), len(t.Args)) {
			find(p.Args[i], t.Args[i])
		}
	}
	find(p, t)
	var put func(p api.Type) api.Type
	put = func(p api.Type) api.Type {
		if i := slices.Index(names, p.Name); p.Form == api.TVar && i >= 0 {
			return by[i]
		}
		if p.Form == api.TApp {
			return app(put(p.Args[0]), put(p.Args[1]))
		}
		return p
	}
	return by, same(put(p), t)
}

// R4: Match's types are in memory of their own, and what is handed in is left as it was.
func TestMatchInMemoryOfItsOwn(t *testing.T) {
	p, x := fun(a, fun(b, fun(a, tv("c")))), fun(list(b), fun(all("a", list(a)), fun(list(b), m1)))
	in, pattern, names := roomy(x), roomy(p), []string{"a", "b", "c", "room"}[:3]
	by, is := unify.Match(names, pattern, in)
	if !is || !kept(in, x) || !kept(pattern, p) || !slices.Equal(names[:4], []string{"a", "b", "c", "room"}) || !apart(append(slices.Clone(by), in, pattern)...) {
		t.Fatal(by, is)
	}
	spoil(in)
	spoil(pattern)
	clear(names)
	if !slices.EqualFunc(by, []api.Type{list(b), all("a", list(a)), m1}, equal) {
		t.Error(by)
	}
}
