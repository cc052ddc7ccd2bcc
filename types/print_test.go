package types_test

import (
	"math"
	"slices"
	"strconv"
	"testing"

	"fugue/api"
	"fugue/types"
)

// P4.4: each form at each place.
func TestPrint(t *testing.T) {
	f, g := con("F"), con("G")
	for _, x := range []struct {
		t     api.Type
		print string
	}{
		{api.Type{}, ""},
		{a, "a"}, {tv("x'"), "x'"}, {integer, "Int"}, {pointer, "(->)"}, {tv("->"), "->"},
		{meta(7), "?7"}, {meta(0), "?0"}, {meta(-1), "?-1"}, {meta(math.MaxInt64), "?9223372036854775807"}, {meta(math.MinInt64), "?-9223372036854775808"},
		{fun(a, b), "a -> b"}, {fun(a, fun(b, c)), "a -> b -> c"}, {fun(fun(a, b), c), "(a -> b) -> c"},
		{fun(fun(fun(a, b), c), a), "((a -> b) -> c) -> a"}, {fun(fun(a, fun(b, c)), fun(a, b)), "(a -> b -> c) -> a -> b"},
		{app(f, a), "F a"}, {app(app(f, a), b), "F a b"}, {app(f, app(g, a)), "F (G a)"}, {app(app(f, app(g, a)), b), "F (G a) b"},
		{app(app(f, a), app(app(g, a), b)), "F a (G a b)"}, {app(f, app(g, app(f, a))), "F (G (F a))"},
		{app(f, fun(a, b)), "F (a -> b)"}, {app(fun(a, b), c), "(a -> b) c"}, {app(app(fun(a, b), c), f), "(a -> b) c F"},
		{fun(app(f, a), app(g, b)), "F a -> G b"}, {app(f, app(fun(a, b), c)), "F ((a -> b) c)"},
		{app(pointer, a), "(->) a"}, {app(f, pointer), "F (->)"}, {app(f, app(pointer, a)), "F ((->) a)"},
		{fun(app(pointer, a), app(pointer, b)), "(->) a -> (->) b"}, {fun(pointer, pointer), "(->) -> (->)"}, {app(pointer, fun(a, b)), "(->) (a -> b)"},
		{app(app(tv("->"), a), b), "-> a b"},
		{all("a", a), "forall a. a"}, {all("a", all("b", fun(a, b))), "forall a. forall b. a -> b"}, {all("a", app(f, a)), "forall a. F a"},
		{all("a", pointer), "forall a. (->)"}, {all("a", meta(1)), "forall a. ?1"},
		{fun(all("a", a), b), "(forall a. a) -> b"}, {fun(b, all("a", a)), "b -> (forall a. a)"},
		{app(f, all("a", a)), "F (forall a. a)"}, {app(all("a", a), b), "(forall a. a) b"},
		{all("a", fun(all("b", b), a)), "forall a. (forall b. b) -> a"}, {fun(a, all("b", all("c", b))), "a -> (forall b. forall c. b)"},
		{app(meta(1), meta(2)), "?1 ?2"}, {fun(meta(1), meta(2)), "?1 -> ?2"},
		{fun(fun(b, a), fun(app(f, a), b)), "(b -> a) -> F a -> b"},
	} {
		in := roomy(x.t)
		if got := types.Print(in); got != x.print || !kept(in, x.t) {
			t.Errorf("%v: %q, not %q", x.t, got, x.print)
		}
	}
	// The chapter's example.
	if got := types.Print(types.Fun(b, types.Fun(b, a), types.App(con("F"), a))); got != "(a -> b) -> F a -> b" {
		t.Error(got)
	}
}

// shown is a type in print by the document's words: each thing in brackets, if within says so of what it is in.
func shown(t api.Type) string {
	bracket := func(x api.Type, within string) string {
		stands := false
		switch is := what(x); is {
		case "all":
			stands = within != "all"
		case "function":
			stands = within == "left" || within == "first" || within == "second"
		case "application":
			stands = within == "second"
		}
		if stands {
			return "(" + shown(x) + ")"
		}
		return shown(x)
	}
	switch what(t) {
	case "all":
		return "forall " + t.Name + ". " + bracket(t.Args[0], "all")
	case "function":
		return bracket(t.Args[0].Args[1], "left") + " -> " + bracket(t.Args[1], "right")
	case "application":
		return bracket(t.Args[0], "first") + " " + bracket(t.Args[1], "second")
	case "meta":
		return "?" + strconv.Itoa(t.N)
	case "arrow":
		return "(->)"
	}
	return t.Name
}

func what(t api.Type) string {
	switch {
	case t.Form == api.TAll:
		return "all"
	case t.Form == api.TApp && t.Args[0].Form == api.TApp && equal(t.Args[0].Args[0], pointer):
		return "function"
	case t.Form == api.TApp:
		return "application"
	case t.Form == api.TMeta:
		return "meta"
	case equal(t, pointer):
		return "arrow"
	}
	return "name"
}

// P4.4: all small types, and all of a small depth.
func TestPrintOfAll(t *testing.T) {
	leaves := []api.Type{a, integer, pointer, meta(1)}
	for _, x := range append(small(6), nested(2, leaves, "a", "b")...) {
		if got := types.Print(x); got != shown(x) {
			t.Fatalf("%v: %q, not %q", x, got, shown(x))
		}
	}
}

// P4.5: types of one print are the same (names of variables being lower ones, of constructors upper ones, or ->).
func TestPrintsAreApart(t *testing.T) {
	leaves := []api.Type{a, b, integer, pointer, meta(1), meta(11), meta(-1)}
	some := slices.Concat(small(6), nested(2, leaves, "a", "b"), nested(3, []api.Type{a, pointer}, "a"))
	seen := map[string]string{}
	for _, x := range some {
		p, told := types.Print(x), nameless(x, nil, itself)
		if other, ok := seen[p]; ok && other != told {
			t.Fatalf("%q is the print of %v, and of %v", p, told, other)
		}
		seen[p] = told
	}
}
