package types

import "fugue/api"

// Same tells whether two are the same, but for the names that TAll gives.
func Same(a, b api.Type) bool { return pair{given{}, given{}}.same(a, b, 0) }

// Free is the variables that are free, as they come.
func Free(t api.Type) []string {
	var names []string
	seen := map[string]bool{}
	for _, s := range layoutOf(t).vars {
		if s.depth == 0 && !seen[s.name] {
			seen[s.name] = true
			names = append(names, s.name)
		}
	}
	return names
}

// Metas is the numbers of what is not known, as they come.
func Metas(t api.Type) []int {
	var numbers []int
	seen := map[int]bool{}
	each(t, func(t api.Type) {
		if t.Form == api.TMeta && !seen[t.N] {
			seen[t.N] = true
			numbers = append(numbers, t.N)
		}
	})
	return numbers
}

// Size is how many names and numbers there are.
func Size(t api.Type) int {
	n := 0
	each(t, func(t api.Type) {
		switch t.Form {
		case api.TMeta, api.TVar, api.TCon, api.TAll:
			n++
		}
	})
	return n
}

// each tells f a type and all that stands in it, from the outside and the left.
func each(t api.Type, f func(t api.Type)) {
	f(t)
	for _, a := range t.Args {
		each(a, f)
	}
}

// given says of names how deep the TAll stands that gives them, the outermost at 1; of others 0.
type given map[string]int

// pair is what is given in two types that are held against each other.
type pair struct{ a, b given }

func (p pair) same(a, b api.Type, depth int) bool {
	if a.Form != b.Form || a.N != b.N || len(a.Args) != len(b.Args) {
		return false
	}
	switch a.Form {
	case api.TVar:
		one, other := p.a[a.Name], p.b[b.Name]
		return one == other && (one > 0 || a.Name == b.Name)
	case api.TAll:
		depth++
		one, other := p.a[a.Name], p.b[b.Name]
		p.a[a.Name], p.b[b.Name] = depth, depth
		is := p.sameAll(a.Args, b.Args, depth)
		p.a[a.Name], p.b[b.Name] = one, other
		return is
	}
	return a.Name == b.Name && p.sameAll(a.Args, b.Args, depth)
}

func (p pair) sameAll(a, b []api.Type, depth int) bool {
	for i := range a {
		if !p.same(a[i], b[i], depth) {
			return false
		}
	}
	return true
}

// layout is where variables stand in a type.
type layout struct {
	vars []spot // from the left
	ends []int  // of each TAll, from the outside and the left: how many variables come ahead of its end
}

// spot is a variable, and how deep the TAll stands that gives it; 0: none does.
type spot struct {
	name  string
	depth int
}

func layoutOf(t api.Type) *layout {
	l := &layout{}
	l.add(t, given{}, 0)
	return l
}

func (l *layout) add(t api.Type, g given, depth int) {
	switch t.Form {
	case api.TVar:
		l.vars = append(l.vars, spot{t.Name, g[t.Name]})
	case api.TAll:
		depth++
		n, outer := len(l.ends), g[t.Name]
		l.ends = append(l.ends, 0)
		g[t.Name] = depth
		l.addAll(t.Args, g, depth)
		g[t.Name] = outer
		l.ends[n] = len(l.vars)
	default:
		l.addAll(t.Args, g, depth)
	}
}

func (l *layout) addAll(all []api.Type, g given, depth int) {
	for _, t := range all {
		l.add(t, g, depth)
	}
}
