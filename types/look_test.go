package types_test

import (
	"slices"
	"strconv"
	"testing"

	"fugue/api"
	"fugue/types"
)

// nameless is a type in which each name that a TAll gives is told by how many TAlls are between: two types are
// the same, if they are so told alike. What free says is told of free variables.
func nameless(t api.Type, around []string, free func(name string) string) string {
	switch t.Form {
	case api.TMeta:
		return "?" + strconv.Itoa(t.N)
	case api.TVar:
		for i, name := range slices.Backward(around) {
			if name == t.Name {
				return "#" + strconv.Itoa(len(around)-1-i)
			}
		}
		return free(t.Name)
	case api.TCon:
		return "C:" + t.Name
	case api.TApp:
		return "(" + nameless(t.Args[0], around, free) + " " + nameless(t.Args[1], around, free) + ")"
	case api.TAll:
		return "[" + nameless(t.Args[0], append(slices.Clone(around), t.Name), free) + "]"
	}
	return "none"
}

func itself(name string) string { return "v:" + name }

// P4.2: types that differ in names, and in more than these.
func TestSame(t *testing.T) {
	for i, x := range []struct {
		a, b api.Type
		is   bool
	}{
		{a, a, true}, {a, b, false}, {integer, integer, true}, {integer, con("Bool"), false},
		{meta(1), meta(1), true}, {meta(1), meta(2), false}, {meta(-1), meta(1), false},
		{con("a"), a, false}, {meta(0), con(""), false}, {meta(0), tv(""), false},
		{fun(a, b), fun(a, b), true}, {fun(a, b), fun(b, a), false}, {fun(a, b), app(pointer, a), false},
		{app(a, app(b, c)), app(app(a, b), c), false},
		{all("a", a), all("b", b), true},
		{all("a", a), all("b", a), false},
		{all("a", b), all("b", b), false},
		{all("a", c), all("b", c), true},
		{all("a", integer), all("b", integer), true},
		{all("a", a), a, false}, {all("a", b), b, false},
		{all("a", all("b", a)), all("b", all("a", b)), true},
		{all("a", all("b", a)), all("a", all("b", b)), false},
		{all("a", all("a", a)), all("b", all("a", b)), false},
		{all("a", all("a", a)), all("b", all("a", a)), true},
		{all("a", all("b", fun(a, b))), all("b", all("a", fun(b, a))), true},
		{all("a", all("b", fun(a, b))), all("a", all("b", fun(b, a))), false},
		{fun(all("a", a), a), fun(all("b", b), a), true},
		{fun(all("a", a), a), fun(all("b", b), b), false},
		{fun(a, all("a", a)), fun(a, all("b", b)), true},
		{all("a", fun(all("a", a), a)), all("b", fun(all("c", c), b)), true},
		{all("a", fun(all("a", a), a)), all("b", fun(all("b", b), c)), false},
		{all("a", fun(all("b", a), b)), all("c", fun(all("b", c), b)), true},
		{all("a", fun(all("b", a), b)), all("c", fun(all("d", c), tv("d"))), false},
	} {
		if types.Same(x.a, x.b) != x.is || types.Same(x.b, x.a) != x.is {
			t.Errorf("%d: %v, %v: not %v", i, x.a, x.b, x.is)
		}
	}
	empty := app(a, b)
	empty.Args[0].Args = []api.Type{}
	if !types.Same(empty, app(a, b)) || !types.Same(app(a, b), empty) {
		t.Error("nil and empty lists are one")
	}
}

// P4.2: all small types, held against one another.
func TestSameOfAll(t *testing.T) {
	some := append(small(4), slices.Concat(sized(6, []api.Type{a, b}, "a", "b")...)...)
	told := make([]string, len(some))
	for i, x := range some {
		told[i] = nameless(x, nil, itself)
	}
	for i, x := range some {
		for j, y := range some {
			if types.Same(x, y) != (told[i] == told[j]) {
				t.Fatalf("%v, %v: not %v", x, y, told[i] == told[j])
			}
		}
	}
}

// P4.2: what is free, what is not known, and how much there is.
func TestFreeMetasSize(t *testing.T) {
	for _, x := range []struct {
		t     api.Type
		free  []string
		metas []int
		size  int
	}{
		{t: api.Type{}},
		{t: a, free: []string{"a"}, size: 1},
		{t: integer, size: 1}, {t: pointer, size: 1},
		{t: meta(7), metas: []int{7}, size: 1},
		{t: meta(0), metas: []int{0}, size: 1},
		{t: meta(-3), metas: []int{-3}, size: 1},
		{t: all("a", a), size: 2},
		{t: all("a", b), free: []string{"b"}, size: 2},
		{t: all("a", integer), size: 2},
		{t: fun(b, a), free: []string{"b", "a"}, size: 3},
		{t: fun(b, fun(a, b)), free: []string{"b", "a"}, size: 5},
		{t: app(app(c, app(b, a)), app(c, a)), free: []string{"c", "b", "a"}, size: 5},
		{t: fun(all("a", a), a), free: []string{"a"}, size: 4},
		{t: fun(a, all("a", a)), free: []string{"a"}, size: 4},
		{t: all("a", fun(a, all("a", fun(a, b)))), free: []string{"b"}, size: 7},
		{t: all("a", fun(all("a", a), fun(a, b))), free: []string{"b"}, size: 7},
		{t: all("a", fun(all("b", fun(a, b)), b)), free: []string{"b"}, size: 7},
		{t: fun(all("b", fun(c, b)), fun(b, a)), free: []string{"c", "b", "a"}, size: 8},
		{t: app(tv("X"), con("x")), free: []string{"X"}, size: 2},
		{t: fun(meta(2), fun(meta(1), meta(2))), metas: []int{2, 1}, size: 5},
		{t: all("a", app(meta(3), app(meta(1), meta(2)))), metas: []int{3, 1, 2}, size: 4},
		{t: app(app(meta(9), a), fun(meta(9), meta(4))), free: []string{"a"}, metas: []int{9, 4}, size: 5},
	} {
		free, metas, size := types.Free(x.t), types.Metas(x.t), types.Size(x.t)
		if !slices.Equal(free, x.free) || !slices.Equal(metas, x.metas) || size != x.size {
			t.Errorf("%v: %v, %v, %d", x.t, free, metas, size)
		}
	}
}

// freeOf is Free by the document's words, written another way: each thing's own, the TAll's Name taken out.
func freeOf(t api.Type) []string {
	if t.Form == api.TVar {
		return []string{t.Name}
	}
	var out []string
	for _, x := range t.Args {
		for _, name := range freeOf(x) {
			if !slices.Contains(out, name) && (t.Form != api.TAll || name != t.Name) {
				out = append(out, name)
			}
		}
	}
	return out
}

func metasOf(t api.Type) []int {
	if t.Form == api.TMeta {
		return []int{t.N}
	}
	var out []int
	for _, x := range t.Args {
		for _, n := range metasOf(x) {
			if !slices.Contains(out, n) {
				out = append(out, n)
			}
		}
	}
	return out
}

func sizeOf(t api.Type) int {
	n := 1
	if t.Form == api.TApp {
		n = 0
	}
	for _, x := range t.Args {
		n += sizeOf(x)
	}
	return n
}

// P4.2: of all small types; R4: which are left as they were.
func TestFreeMetasSizeOfAll(t *testing.T) {
	some := append(small(5), slices.Concat(sized(6, []api.Type{a, b, meta(2), meta(1)}, "a", "b")...)...)
	for _, x := range some {
		in := roomy(x)
		free, metas, size := types.Free(in), types.Metas(in), types.Size(in)
		if !slices.Equal(free, freeOf(x)) || !slices.Equal(metas, metasOf(x)) || size != sizeOf(x) {
			t.Fatalf("%v: %v, %v, %d", x, free, metas, size)
		}
		if !types.Same(in, x) || !kept(in, x) {
			t.Fatalf("%v is changed", x)
		}
	}
}
