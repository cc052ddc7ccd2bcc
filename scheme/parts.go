package scheme

import (
	"cmp"
	"slices"
	"strings"

	"fugue/api"
	"fugue/chars"
	"fugue/types"
)

// come is the variables that come in a scheme, its own and others, each once: those of its Type first.
func come(x api.Scheme) []string {
	var names []string
	seen := map[string]bool{}
	add := func(t api.Type) {
		for _, name := range types.Free(t) {
			if !seen[name] {
				seen[name] = true
				names = append(names, name)
			}
		}
	}
	add(x.Type)
	for _, p := range x.Preds {
		add(p.Type)
	}
	return names
}

// letters is a closure that gives one letter behind the other, none that is among these names, and keeps which it gave.
func letters(but []string) func() string {
	taken := map[string]bool{}
	for _, name := range but {
		taken[name] = true
	}
	n := 0
	return func() string {
		for {
			letter := chars.Letters(n)
			n++
			if !taken[letter] {
				return letter
			}
		}
	}
}

// putting is a closure that puts types in the place of variables. Subst is handed those alone that come in a type: it
// looks at each that it is handed, and a scheme may have many variables, and many predicates.
func putting(by map[string]api.Type) func(t api.Type) api.Type {
	return func(t api.Type) api.Type {
		var names []string
		var into []api.Type
		for _, name := range types.Free(t) {
			if x, has := by[name]; has {
				names, into = append(names, name), append(into, x)
			}
		}
		return types.Subst(t, names, into)
	}
}

// each is predicates of what f tells of their types.
func each(l []api.Pred, f func(t api.Type) api.Type) []api.Pred {
	var out []api.Pred
	for _, p := range l {
		out = append(out, api.Pred{Class: p.Class, Type: f(p.Type)})
	}
	return out
}

// shown is a predicate, and its type's print.
type shown struct {
	api.Pred
	print string
}

// inRow is predicates in the row of a canonic form, each once.
func inRow(l []api.Pred) []api.Pred {
	var all []shown
	for _, p := range l {
		all = append(all, shown{p, types.Print(p.Type)})
	}
	slices.SortFunc(all, shown.compare)
	all = slices.CompactFunc(all, func(p, q shown) bool { return p.compare(q) == 0 })
	var out []api.Pred
	for _, p := range all {
		out = append(out, p.Pred)
	}
	return out
}

func (p shown) compare(q shown) int {
	if n := cmp.Or(strings.Compare(p.Class, q.Class), strings.Compare(p.print, q.print)); n != 0 {
		return n
	}
	// A variable and a constructor that have one name have one print, but are not one.
	return compare(p.Type, q.Type)
}

// compare puts types in a row: 0 of those that are the same.
func compare(a, b api.Type) int {
	return cmp.Or(cmp.Compare(a.Form, b.Form), cmp.Compare(a.N, b.N), strings.Compare(a.Name, b.Name), slices.CompareFunc(a.Args, b.Args, compare))
}

// kind is a kind in memory of its own, at every depth.
func kind(k api.Kind) api.Kind {
	if len(k.From) == 0 {
		return api.Kind{}
	}
	from := make([]api.Kind, len(k.From))
	copy(from, k.From)
	for i := range from {
		from[i] = kind(from[i])
	}
	return api.Kind{From: from}
}
