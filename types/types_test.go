package types_test

import (
	"reflect"
	"slices"
	"testing"

	"fugue/api"
	"fugue/types"
)

// Types, written out as the document's words have them: no test of a maker leans on another maker.
func meta(n int) api.Type            { return api.Type{Form: api.TMeta, N: n} }
func tv(name string) api.Type        { return api.Type{Form: api.TVar, Name: name} }
func con(name string) api.Type       { return api.Type{Form: api.TCon, Name: name} }
func app(f, a api.Type) api.Type     { return api.Type{Form: api.TApp, Args: []api.Type{f, a}} }
func fun(from, to api.Type) api.Type { return app(app(con("->"), from), to) }
func all(name string, body api.Type) api.Type {
	return api.Type{Form: api.TAll, Name: name, Args: []api.Type{body}}
}

var (
	a, b, c = tv("a"), tv("b"), tv("c")
	integer = con("Int")
	pointer = con("->")
)

// equal tells whether two types are written alike, names and all; nil and empty lists are one.
func equal(x, y api.Type) bool {
	if x.Form != y.Form || x.N != y.N || x.Name != y.Name || len(x.Args) != len(y.Args) {
		return false
	}
	for i := range x.Args {
		if !equal(x.Args[i], y.Args[i]) {
			return false
		}
	}
	return true
}

// sized is all types of so many nodes of these leaves, and of TAlls of these names; by their number of nodes.
func sized(most int, leaves []api.Type, names ...string) [][]api.Type {
	out := [][]api.Type{nil, leaves}
	for n := 2; n <= most; n++ {
		var l []api.Type
		for _, name := range names {
			for _, t := range out[n-1] {
				l = append(l, all(name, t))
			}
		}
		for i := 1; i < n-1; i++ {
			for _, f := range out[i] {
				for _, t := range out[n-1-i] {
					l = append(l, app(f, t))
				}
			}
		}
		out = append(out, l)
	}
	return out
}

// nested is all types up to a depth of these leaves, of TAlls of these names, and of functions' types.
func nested(depth int, leaves []api.Type, names ...string) []api.Type {
	if depth == 0 {
		return leaves
	}
	out := slices.Clone(leaves)
	below := nested(depth-1, leaves, names...)
	for _, t := range below {
		for _, name := range names {
			out = append(out, all(name, t))
		}
		for _, u := range below {
			out = append(out, app(t, u), fun(t, u))
		}
	}
	return out
}

// small is all types of at most so many nodes, over all forms.
func small(most int) []api.Type {
	return slices.Concat(sized(most, []api.Type{a, b, pointer, integer, meta(1)}, "a", "b")...)
}

// spoil overwrites a type's memory, at every depth, its spare room, too.
func spoil(t api.Type) {
	for i := range t.Args {
		spoil(t.Args[i])
	}
	for i := range t.Args[:cap(t.Args)] {
		t.Args[:cap(t.Args)][i] = con("Spoilt")
	}
}

// roomy is a type whose lists have spare room, at every depth, which holds something.
func roomy(t api.Type) api.Type {
	t.Args = roomyList(t.Args)
	return t
}

func roomyList(l []api.Type) []api.Type {
	out := make([]api.Type, len(l), len(l)+2)
	for i := range l {
		out[i] = roomy(l[i])
	}
	for i := len(l); i < cap(out); i++ {
		out[:cap(out)][i] = con("Room")
	}
	return out
}

// kept tells whether what roomy gave is as it was, its spare room, too.
func kept(t, was api.Type) bool {
	if t.Form != was.Form || t.N != was.N || t.Name != was.Name {
		return false
	}
	return keptList(t.Args, was.Args)
}

func keptList(l, was []api.Type) bool {
	if len(l) != len(was) {
		return false
	}
	for i, t := range l[:cap(l)] {
		if i < len(l) && !kept(t, was[i]) || i >= len(l) && !reflect.DeepEqual(t, con("Room")) {
			return false
		}
	}
	return true
}

// apart tells whether no two lists of these types share memory: each list's first node is at a place of its own.
func apart(l ...api.Type) bool {
	seen := map[*api.Type]bool{}
	var each func(t api.Type) bool
	each = func(t api.Type) bool {
		for i := range t.Args[:cap(t.Args)] {
			p := &t.Args[:cap(t.Args)][i]
			if seen[p] {
				return false
			}
			seen[p] = true
		}
		for _, x := range t.Args {
			if !each(x) {
				return false
			}
		}
		return true
	}
	for _, t := range l {
		if !each(t) {
			return false
		}
	}
	return true
}

// P4.1: each form, written out.
func TestMakers(t *testing.T) {
	for i, x := range []struct{ got, want api.Type }{
		{types.Meta(1), meta(1)},
		{types.Meta(0), meta(0)},
		{types.Meta(-7), meta(-7)},
		{types.Var("a"), a},
		{types.Var("a@b"), tv("a@b")},
		{types.Con("Int"), integer},
		{types.Con("->"), pointer},
		{types.Con(types.Arrow), pointer},
		{types.All("a", a), all("a", a)},
		{types.All("a", b), all("a", b)},
		{types.All("a", types.All("a", a)), all("a", all("a", a))},
		{types.App(a), a},
		{types.App(a, b), app(a, b)},
		{types.App(a, b, c), app(app(a, b), c)},
		{types.App(a, b, c, integer), app(app(app(a, b), c), integer)},
		{types.App(app(a, b), c), app(app(a, b), c)},
		{types.App(a, app(b, c)), app(a, app(b, c))},
		{types.App(all("a", a), all("b", b)), app(all("a", a), all("b", b))},
		{types.Fun(a), a},
		{types.Fun(b, a), fun(a, b)},
		{types.Fun(c, a, b), fun(a, fun(b, c))},
		{types.Fun(integer, a, b, c), fun(a, fun(b, fun(c, integer)))},
		{types.Fun(fun(b, c), a), fun(a, fun(b, c))},
		{types.Fun(c, fun(a, b)), fun(fun(a, b), c)},
		{types.Fun(all("b", b), all("a", a)), fun(all("a", a), all("b", b))},
		{types.App(pointer, a, b), fun(a, b)},
		{types.Fun(b, fun(b, a), app(con("F"), a)), fun(fun(b, a), fun(app(con("F"), a), b))},
	} {
		if !equal(x.got, x.want) {
			t.Errorf("%d: %v, not %v", i, x.got, x.want)
		}
	}
	if types.Arrow != "->" {
		t.Error(types.Arrow)
	}
}

// P4.1: functions' types, and what is nearly one.
func TestSplit(t *testing.T) {
	for _, x := range []struct {
		t, from, to api.Type
		is          bool
	}{
		{fun(a, b), a, b, true},
		{fun(a, fun(b, c)), a, fun(b, c), true},
		{fun(fun(a, b), c), fun(a, b), c, true},
		{fun(all("a", a), all("b", b)), all("a", a), all("b", b), true},
		{fun(meta(1), app(a, b)), meta(1), app(a, b), true},
		{t: api.Type{}},
		{t: a}, {t: meta(2)}, {t: integer}, {t: pointer},
		{t: app(pointer, a)},
		{t: app(a, b)},
		{t: app(pointer, app(a, b))},
		{t: app(pointer, app(pointer, a))},
		{t: app(fun(a, b), c)},
		{t: app(app(integer, a), b)},
		{t: app(app(tv("->"), a), b)},
		{t: app(app(all("->", a), a), b)},
		{t: app(app(meta(1), a), b)},
		{t: all("a", fun(a, b))},
		{t: app(all("a", app(pointer, a)), b)},
	} {
		from, to, is := types.Split(x.t)
		if is != x.is || !equal(from, x.from) || !equal(to, x.to) {
			t.Errorf("%v: %v, %v, %v", x.t, from, to, is)
		}
	}
}

// P4.1: Split takes apart what Fun puts together, and nothing else.
func TestSplitOfAll(t *testing.T) {
	for _, x := range small(6) {
		from, to, is := types.Split(x)
		if is && !equal(fun(from, to), x) {
			t.Errorf("%v: %v, %v", x, from, to)
		}
		want := x.Form == api.TApp && x.Args[0].Form == api.TApp && equal(x.Args[0].Args[0], pointer)
		if is != want || !is && (!equal(from, api.Type{}) || !equal(to, api.Type{})) {
			t.Errorf("%v: %v", x, is)
		}
	}
}

// P4.1: what is given others, and these.
func TestSpine(t *testing.T) {
	for _, x := range []struct {
		t, head api.Type
		args    []api.Type
	}{
		{a, a, nil}, {integer, integer, nil}, {meta(3), meta(3), nil}, {pointer, pointer, nil},
		{all("a", app(a, b)), all("a", app(a, b)), nil},
		{app(a, b), a, []api.Type{b}},
		{app(app(a, b), c), a, []api.Type{b, c}},
		{app(app(app(a, b), c), integer), a, []api.Type{b, c, integer}},
		{app(a, app(b, c)), a, []api.Type{app(b, c)}},
		{app(app(a, app(b, c)), app(c, a)), a, []api.Type{app(b, c), app(c, a)}},
		{fun(a, b), pointer, []api.Type{a, b}},
		{app(fun(a, b), c), pointer, []api.Type{a, b, c}},
		{app(all("a", app(a, b)), c), all("a", app(a, b)), []api.Type{c}},
		{app(meta(1), a), meta(1), []api.Type{a}},
	} {
		head, args := types.Spine(x.t)
		if !equal(head, x.head) || !slices.EqualFunc(args, x.args, equal) {
			t.Errorf("%v: %v, %v", x.t, head, args)
		}
	}
}

// P4.1: a type is App of its Spine, and the first of that is no application.
func TestAppOfSpine(t *testing.T) {
	for _, x := range small(6) {
		head, args := types.Spine(x)
		if head.Form == api.TApp || !equal(types.App(head, args...), x) {
			t.Errorf("%v: %v, %v", x, head, args)
		}
	}
}

// R4: what makers and takers answer shares no memory with what was handed in, which is left as it was.
func TestTypesInMemoryOfTheirOwn(t *testing.T) {
	some := small(4)
	for i, x := range some {
		y := some[(i*7+3)%len(some)]
		for _, m := range []struct {
			make func(f api.Type, l []api.Type) []api.Type
			want []api.Type
		}{
			{func(f api.Type, l []api.Type) []api.Type { return []api.Type{types.App(f, l...)} }, []api.Type{app(app(app(x, y), x), y)}},
			{func(f api.Type, l []api.Type) []api.Type { return []api.Type{types.App(f)} }, []api.Type{x}},
			{func(f api.Type, l []api.Type) []api.Type { return []api.Type{types.Fun(f, l...)} }, []api.Type{fun(y, fun(x, fun(y, x)))}},
			{func(f api.Type, l []api.Type) []api.Type { return []api.Type{types.Fun(f)} }, []api.Type{x}},
			{func(f api.Type, l []api.Type) []api.Type { return []api.Type{types.All("q", f)} }, []api.Type{all("q", x)}},
		} {
			f, l := roomy(x), roomyList([]api.Type{y, x, y})
			got := m.make(f, l)
			if !kept(f, x) || !keptList(l, []api.Type{y, x, y}) {
				t.Fatalf("%v, %v are changed", x, y)
			}
			spoil(f)
			spoil(api.Type{Args: l})
			if !slices.EqualFunc(got, m.want, equal) || !apart(got...) {
				t.Fatalf("%v, %v: memory is kept: %v", x, y, got)
			}
		}
	}
	for _, x := range append(some, fun(app(a, b), all("a", a)), app(app(a, app(b, c)), fun(a, b))) {
		whole := roomy(x)
		from, to, is := types.Split(whole)
		head, args := types.Spine(whole)
		if !kept(whole, x) {
			t.Fatalf("%v is changed", x)
		}
		spoil(whole)
		if is && !equal(fun(from, to), x) || !equal(types.App(head, args...), x) {
			t.Fatalf("memory of %v is kept: %v, %v; %v, %v", x, from, to, head, args)
		}
		if !apart(from, to) || !apart(head, api.Type{Args: args}) {
			t.Fatalf("what is told of %v shares memory", x)
		}
	}
	once := app(a, b)
	if !apart(types.App(once, once, once)) || !apart(types.Fun(once, once, once)) {
		t.Error("what is handed in twice is told in one memory")
	}
}
