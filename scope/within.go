package scope

import "fugue/api"

// repeats tells of each name whether it was asked of before.
func repeats() func(name string) bool {
	asked := map[string]bool{}
	return func(name string) bool {
		was := asked[name]
		asked[name] = true
		return was
	}
}

// twice tells whether a name comes twice.
func twice(names []string) bool {
	again, is := repeats(), false
	for _, name := range names {
		is = again(name) || is
	}
	return is
}

// each tells an expression, and all that stands within it, to see.
func each(e api.Exp, see func(e api.Exp)) {
	see(e)
	for _, b := range e.Binds {
		each(b.Body, see)
	}
	for _, kid := range e.Kids {
		each(kid, see)
	}
}

// eachPat tells a pattern, and all that stands within it, to see, in their row.
func eachPat(p api.Pat, see func(p api.Pat)) {
	see(p)
	for _, kid := range p.Kids {
		eachPat(kid, see)
	}
}

// eachType tells types, and all that stands within them, to see.
func eachType(see func(t api.Type), l ...api.Type) {
	for _, t := range l {
		see(t)
		eachType(see, t.Args...)
	}
}

// eachFree tells each name that nothing within an expression gives to see, as often as it comes, in their row.
func eachFree(e api.Exp, see func(v api.Exp)) {
	f := frees{given: map[string]int{}, see: see}
	f.exp(e)
}

// frees goes through an expression.
type frees struct {
	given map[string]int // how many around give a name: it may be given still where an inner one ends
	see   func(v api.Exp)
}

func (f frees) exp(e api.Exp) {
	switch e.Form {
	case api.EVar:
		if f.given[e.Name] == 0 {
			f.see(e)
		}
	case api.ELam:
		var names []string
		for _, p := range e.Pats {
			names = append(names, Vars(p)...)
		}
		f.within(names, e.Kids...)
	case api.ELet:
		var names []string
		var l []api.Exp
		for _, b := range e.Binds {
			names = append(names, b.Name)
			l = append(l, b.Body)
		}
		f.within(names, append(l, e.Kids...)...)
	case api.ECase:
		for i, kid := range e.Kids {
			var names []string
			if 0 < i && i <= len(e.Pats) {
				names = Vars(e.Pats[i-1])
			}
			f.within(names, kid)
		}
	default:
		f.within(nil, e.Kids...)
	}
}

// within goes through expressions, in their row, in which names are given.
func (f frees) within(names []string, l ...api.Exp) {
	for _, name := range names {
		f.given[name]++
	}
	for _, e := range l {
		f.exp(e)
	}
	for _, name := range names {
		f.given[name]--
	}
}
