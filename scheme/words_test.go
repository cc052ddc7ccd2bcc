package scheme_test

import (
	"slices"
	"strconv"
	"testing"

	"fugue/api"
	"fugue/chars"
	"fugue/classes"
	"fugue/entail"
	"fugue/scheme"
	"fugue/types"
)

// coming is the variables of a type, from the left, each as often as it comes.
func coming(t api.Type) []string {
	if t.Form == api.TVar {
		return []string{t.Name}
	}
	var l []string
	for _, x := range t.Args {
		l = append(l, coming(x)...)
	}
	return l
}

// all is the variables of a scheme, likewise, its Type's first.
func all(x api.Scheme) []string {
	l := coming(x.Type)
	for _, p := range x.Preds {
		l = append(l, coming(p.Type)...)
	}
	return l
}

// renamed is a type in which f tells the name of each variable.
func renamed(t api.Type, f func(name string) string) api.Type {
	if t.Form == api.TVar {
		return types.Var(f(t.Name))
	}
	var l []api.Type
	for _, x := range t.Args {
		l = append(l, renamed(x, f))
	}
	t.Args = l
	return t
}

func renamedScheme(x api.Scheme, f func(name string) string) api.Scheme {
	y := api.Scheme{Kinds: x.Kinds, Type: renamed(x.Type, f)}
	for _, name := range x.Vars {
		y.Vars = append(y.Vars, f(name))
	}
	for _, p := range x.Preds {
		y.Preds = append(y.Preds, api.Pred{Class: p.Class, Type: renamed(p.Type, f)})
	}
	return y
}

// canonic is the canonic form, by the words, a variable at a time.
func canonic(x api.Scheme) api.Scheme {
	var met, free []string // its own, in their row; others
	for _, name := range all(x) {
		if !slices.Contains(x.Vars, name) {
			free = append(free, name)
		} else if !slices.Contains(met, name) {
			met = append(met, name)
		}
	}
	letters := map[string]string{}
	for n := 0; len(letters) < len(met); n++ {
		if letter := chars.Letters(n); !slices.Contains(free, letter) {
			letters[met[len(letters)]] = letter
		}
	}
	y := renamedScheme(x, func(name string) string {
		if letter, is := letters[name]; is {
			return letter
		}
		return name
	})
	y.Vars, y.Kinds = nil, nil
	for _, name := range met {
		y.Vars = append(y.Vars, letters[name])
		if len(x.Kinds) > 0 {
			y.Kinds = append(y.Kinds, x.Kinds[slices.Index(x.Vars, name)])
		}
	}
	y.Preds = placed(y.Preds)
	return y
}

// placed is predicates, each put ahead of the first that has to stand behind it, unless it is there.
func placed(l []api.Pred) []api.Pred {
	var out []api.Pred
	for _, p := range l {
		if slices.ContainsFunc(out, func(q api.Pred) bool { return q.Class == p.Class && types.Same(q.Type, p.Type) }) {
			continue
		}
		at := slices.IndexFunc(out, func(q api.Pred) bool {
			return q.Class > p.Class || q.Class == p.Class && types.Print(q.Type) > types.Print(p.Type)
		})
		if at < 0 {
			at = len(out)
		}
		out = slices.Insert(out, at, p)
	}
	return out
}

// printed is a scheme that is canonic in print.
func printed(x api.Scheme) string {
	var s string
	for i, p := range x.Preds {
		if i > 0 {
			s += ", "
		}
		s += p.Class + " "
		if len(p.Type.Args) > 0 {
			s += "(" + types.Print(p.Type) + ")"
		} else {
			s += types.Print(p.Type)
		}
	}
	switch {
	case len(x.Preds) > 1:
		s = "(" + s + ") => "
	case len(x.Preds) == 1:
		s += " => "
	}
	return s + types.Print(x.Type)
}

// told tells whether all of a scheme's Vars come in its Type.
func told(x api.Scheme) bool {
	l := coming(x.Type)
	return !slices.ContainsFunc(x.Vars, func(name string) bool { return !slices.Contains(l, name) })
}

// look holds Canon and Print of a scheme against the words.
func look(t *testing.T, x api.Scheme) {
	t.Helper()
	want := canonic(x)
	got := scheme.Canon(x)
	if text(got) != text(want) || kindsText(got.Kinds) != kindsText(want.Kinds) {
		t.Fatal(text(x), "|", text(got), kindsText(got.Kinds), "|", text(want), kindsText(want.Kinds))
	}
	if p := scheme.Print(x); p != printed(want) {
		t.Fatal(text(x), "|", p, "|", printed(want))
	}
	// The row of predicates tells letters, but where Type does.
	if !told(x) {
		return
	}
	if again := scheme.Canon(got); text(again) != text(got) || kindsText(again.Kinds) != kindsText(got.Kinds) {
		t.Fatal(text(x), "|", text(again), "|", text(got))
	}
	if !scheme.Same(x, got) || !scheme.Same(got, x) {
		t.Fatal(text(x), "is not the same as", text(got))
	}
}

// within is a type and all types in it.
func within(t api.Type) []api.Type {
	l := []api.Type{t}
	for _, x := range t.Args {
		l = append(l, within(x)...)
	}
	return l
}

// general is General by the words: all types that may be meant are tried, one behind the other. What a Type tells of its
// variables stands within the other one's Type.
func general(e *classes.Env, a, b api.Scheme) bool {
	b = renamedScheme(b, func(name string) string {
		if slices.Contains(b.Vars, name) {
			return "other@" + name
		}
		return name
	})
	by := make([]api.Type, len(a.Vars))
	var try func(n int) bool
	try = func(n int) bool {
		if n < len(by) && !slices.Contains(coming(a.Type), a.Vars[n]) {
			by[n] = types.Var("nowhere@" + strconv.Itoa(n))
			return try(n + 1)
		}
		if n < len(by) {
			for _, x := range within(b.Type) {
				if by[n] = x; try(n + 1) {
					return true
				}
			}
			return false
		}
		return types.Same(types.Subst(a.Type, a.Vars, by), b.Type) && !slices.ContainsFunc(a.Preds, func(p api.Pred) bool {
			_, errno := entail.By(e, b.Preds, api.Pred{Class: p.Class, Type: types.Subst(p.Type, a.Vars, by)})
			return errno != api.OK
		})
	}
	return try(0)
}

// sized is all types of so many applications of these leaves.
func sized(most int, leaves ...api.Type) []api.Type {
	by := [][]api.Type{leaves}
	out := slices.Clone(leaves)
	for n := 1; n <= most; n++ {
		var l []api.Type
		for i := range n {
			for _, f := range by[i] {
				for _, x := range by[n-1-i] {
					l = append(l, types.App(f, x))
				}
			}
		}
		by, out = append(by, l), append(out, l...)
	}
	return out
}

// P13.3: all small schemes.
func TestAllCanon(t *testing.T) {
	a, b, c := types.Var("a"), types.Var("b"), types.Var("c")
	var some []api.Pred
	for _, class := range []string{"E", "O"} {
		for _, x := range []api.Type{a, b, c, types.App(b, a)} {
			some = append(some, api.Pred{Class: class, Type: x})
		}
	}
	rows := [][]api.Pred{nil}
	for _, p := range some {
		rows = append(rows, []api.Pred{p})
		for _, q := range some {
			rows = append(rows, []api.Pred{p, q})
		}
	}
	for _, x := range append(sized(2, a, b, c), types.Con("Int")) {
		for _, preds := range rows {
			for _, vars := range [][]string{nil, {"a"}, {"b"}, {"b", "a"}, {"c", "a"}, {"a", "b", "c"}} {
				look(t, api.Scheme{Vars: vars, Preds: preds, Type: x})
			}
		}
	}
}

// P13.3: all pairs of few schemes are the same, if their canonic forms by the words are.
func TestAllSame(t *testing.T) {
	var l []api.Scheme
	var texts []string
	for _, typ := range []string{"a", "b a", "a -> b", "Int"} {
		for _, preds := range []string{"", "E a =>", "E b =>", "(O b, E a) =>", "(E a, O b) =>", "(E b, O a) =>", "(E b, E a, E b) =>", "(E a, E b) =>", "(E (b a), E a) =>"} {
			for _, vars := range []string{"", "a", "b", "b a", "a b c"} {
				x := of(t, vars+"."+preds+typ)
				l, texts = append(l, x), append(texts, text(canonic(x)))
			}
		}
	}
	counts := map[bool]int{}
	for i, x := range l {
		for j, y := range l {
			same := texts[i] == texts[j]
			counts[same]++
			if scheme.Same(x, y) != same {
				t.Fatal(text(x), "|", text(y), !same)
			}
		}
	}
	if counts[true] < 400 || counts[false] < 20000 {
		t.Error(counts)
	}
}

// P13.4: all pairs of small schemes.
func TestAllGeneral(t *testing.T) {
	e := env(t, "class E a => O a { } ; class E a { } ; instance E I { } ; instance (E a, O a) => E (L a) { } ; instance E (D a) { }")
	var l []api.Scheme
	small := append(sized(1, types.Var("a"), types.Var("b"), types.Con("I"), types.Con("L")), types.App(types.Con("D"), types.Con("I")), types.App(types.Var("b"), types.Var("a"), types.Var("a")), types.App(types.Con("L"), types.Var("a"), types.Var("b")))
	for _, vars := range [][]string{nil, {"a"}, {"b", "a"}} {
		for _, x := range small {
			for _, src := range []string{"Int", "E a => Int", "O a => Int", "E b => Int", "(E (L a), O b) => Int", "(E (D b), O a) => Int"} {
				l = append(l, api.Scheme{Vars: vars, Preds: of(t, src).Preds, Type: x})
			}
		}
	}
	counts := map[bool]int{}
	for _, x := range l {
		for _, y := range l {
			is := general(e, x, y)
			counts[is]++
			if scheme.General(e, x, y) != is {
				t.Fatal(text(x), "|", text(y), !is)
			}
		}
	}
	if counts[true] < 3000 || counts[false] < 3000 {
		t.Error(counts)
	}
}
