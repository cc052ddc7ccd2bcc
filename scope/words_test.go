package scope_test

import (
	"slices"

	"fugue/api"
)

// frees is the names that are free in an expression by the chapter's words, as often as they come.
func frees(e api.Exp) []string {
	if e.Form == api.EVar {
		return []string{e.Name}
	}
	var l []string
	for _, b := range e.Binds {
		l = append(l, frees(b.Body)...)
	}
	for i, kid := range e.Kids {
		free := frees(kid)
		if e.Form == api.ECase && i > 0 {
			free = without(free, gives(e.Pats[i-1]))
		}
		l = append(l, free...)
	}
	return without(l, givesAll(e))
}

// givesAll is what an expression gives in all that it has.
func givesAll(e api.Exp) []string {
	var l []string
	for _, b := range e.Binds {
		l = append(l, b.Name)
	}
	if e.Form == api.ELam {
		for _, p := range e.Pats {
			l = append(l, p.Name)
		}
	}
	return l
}

func gives(p api.Pat) []string {
	if p.Form == api.PVar {
		return []string{p.Name}
	}
	var l []string
	for _, kid := range p.Kids {
		l = append(l, gives(kid)...)
	}
	return l
}

func without(l, names []string) []string {
	return slices.DeleteFunc(slices.Clone(l), func(s string) bool { return slices.Contains(names, s) })
}

// once is a list's things, each once, in the row in which they first come.
func once(l []string) []string {
	var out []string
	for _, s := range l {
		if !slices.Contains(out, s) {
			out = append(out, s)
		}
	}
	return out
}

// uses is what P8.3 tells of binds.
func uses(l []api.Bind) [][]int {
	out := make([][]int, len(l))
	for i, b := range l {
		for _, name := range frees(b.Body) {
			j := slices.IndexFunc(l, func(x api.Bind) bool { return x.Name == name })
			if j >= 0 && j != i && !l[j].Has {
				out[i] = append(out[i], j)
			}
		}
	}
	return out
}

// wrong is a thing that is wrong, and its number among the chapter's four.
type wrong struct{ at, row int }

// words is all that is wrong in a program, by the chapter's words: what is there is looked for in the program itself each
// time, and names that are given are handed down.
type words struct {
	p   api.Program
	all []wrong
}

func (w *words) tell(row, at int, is bool) {
	if is {
		w.all = append(w.all, wrong{at, row})
	}
}

// check is what P8.2 tells.
func check(p api.Program) api.At {
	w := words{p: p}
	w.declarations()
	w.bindings()
	if len(w.all) == 0 {
		return api.At{}
	}
	least := slices.MinFunc(w.all, func(a, b wrong) int {
		if a.at != b.at {
			return a.at - b.at
		}
		return a.row - b.row
	})
	return api.At{Errno: []api.Errno{0, api.ErrOwn, api.ErrTwice, api.ErrNone, api.ErrArity}[least.row], At: least.at}
}

// prelude is the prelude's data types, but the functions'.
func prelude() []api.Data {
	return []api.Data{{Name: "Int"}, {Name: "Bool", Cons: []api.Con{{Name: "False"}, {Name: "True"}}}}
}

func (w *words) hasType(name string) bool {
	return slices.ContainsFunc(append(prelude(), w.p.Datas...), func(d api.Data) bool { return d.Name == name })
}

func (w *words) con(name string) (int, bool) {
	for _, d := range append(prelude(), w.p.Datas...) {
		for _, c := range d.Cons {
			if c.Name == name {
				return len(c.Fields), true
			}
		}
	}
	return 0, false
}

func (w *words) class(name string) (api.Class, bool) {
	i := slices.IndexFunc(w.p.Classes, func(c api.Class) bool { return c.Name == name })
	if i < 0 {
		return api.Class{}, false
	}
	return w.p.Classes[i], true
}

// named is the names of all of a Form in a type.
func named(t api.Type, form int) []string {
	var l []string
	if t.Form == form && t.Name != "->" {
		l = append(l, t.Name)
	}
	for _, a := range t.Args {
		l = append(l, named(a, form)...)
	}
	return l
}

func (w *words) typ(at int, t api.Type) {
	for _, name := range named(t, api.TCon) {
		w.tell(3, at, !w.hasType(name))
	}
}

func (w *words) classes(at int, names ...string) {
	for _, name := range names {
		_, has := w.class(name)
		w.tell(3, at, !has)
	}
}

func (w *words) scheme(at int, s api.Scheme) {
	w.typ(at, s.Type)
	for _, p := range s.Preds {
		w.classes(at, p.Class)
		w.typ(at, p.Type)
	}
}

// within tells ErrNone, if a type has a variable that is none of these.
func (w *words) within(at int, t api.Type, vars []string) {
	w.tell(3, at, len(without(named(t, api.TVar), vars)) > 0)
}

func (w *words) declarations() {
	var types, cons, classes []string
	for _, d := range w.p.Datas {
		w.tell(1, d.At, d.Name == "Int" || d.Name == "Bool")
		w.tell(2, d.At, slices.Contains(types, d.Name) || len(once(d.Vars)) < len(d.Vars))
		types = append(types, d.Name)
		for _, c := range d.Cons {
			w.tell(1, c.At, c.Name == "True" || c.Name == "False")
			w.tell(2, c.At, slices.Contains(cons, c.Name))
			cons = append(cons, c.Name)
			for _, t := range c.Fields {
				w.typ(c.At, t)
				w.within(c.At, t, d.Vars)
			}
		}
	}
	for _, c := range w.p.Classes {
		w.tell(2, c.At, slices.Contains(classes, c.Name))
		classes = append(classes, c.Name)
		w.classes(c.At, c.Supers...)
		for _, m := range c.Methods {
			w.scheme(m.At, m.Type)
		}
	}
}

func (w *words) bindings() {
	prims := []string{"add", "sub", "mul", "div", "eq", "lt"}
	var values []api.Bind
	for _, c := range w.p.Classes {
		for _, m := range c.Methods {
			values = append(values, api.Bind{Name: m.Name, At: m.At})
		}
	}
	values = append(values, w.p.Binds...)
	given := slices.Clone(prims)
	for _, v := range values {
		given = append(given, v.Name)
		w.tell(1, v.At, slices.Contains(prims, v.Name))
		w.tell(2, v.At, slices.ContainsFunc(values, func(x api.Bind) bool { return x.Name == v.Name && x.At < v.At }))
	}
	for _, b := range w.p.Binds {
		if b.Has {
			w.scheme(b.At, b.Sig)
		}
		w.exp(b.Body, given)
	}
	for _, x := range w.p.Insts {
		w.inst(x, given)
	}
}

func (w *words) inst(x api.Inst, given []string) {
	w.tell(2, x.At, len(once(x.Vars)) < len(x.Vars))
	w.classes(x.At, x.Class)
	w.tell(3, x.At, !w.hasType(x.Con))
	for _, p := range x.Preds {
		w.classes(x.At, p.Class)
		w.within(x.At, p.Type, x.Vars)
	}
	class, has := w.class(x.Class)
	for i, b := range x.Binds {
		w.tell(2, b.At, slices.ContainsFunc(x.Binds[:i], func(o api.Bind) bool { return o.Name == b.Name }))
		w.tell(3, b.At, has && !slices.ContainsFunc(class.Methods, func(m api.Sig) bool { return m.Name == b.Name }))
		w.exp(b.Body, given)
	}
}

func (w *words) exp(e api.Exp, given []string) {
	switch e.Form {
	case api.EVar:
		w.tell(3, e.At, !slices.Contains(given, e.Name))
	case api.ECon:
		_, has := w.con(e.Name)
		w.tell(3, e.At, !has)
	case api.EAnn:
		w.scheme(e.At, e.Sig)
	}
	inner := append(slices.Clone(given), givesAll(e)...)
	for i, b := range e.Binds {
		w.tell(2, b.At, slices.ContainsFunc(e.Binds[:i], func(o api.Bind) bool { return o.Name == b.Name }))
		if b.Has {
			w.scheme(b.At, b.Sig)
		}
		w.exp(b.Body, inner)
	}
	var names []string
	for _, p := range e.Pats {
		if e.Form == api.ECase {
			names = nil
		}
		names = w.pat(p, names)
	}
	for i, kid := range e.Kids {
		if e.Form == api.ECase && i > 0 {
			w.exp(kid, append(slices.Clone(given), gives(e.Pats[i-1])...))
			continue
		}
		w.exp(kid, inner)
	}
}

// pat tells what is wrong in a pattern, ahead of which names were given, and which are behind it.
func (w *words) pat(p api.Pat, names []string) []string {
	switch p.Form {
	case api.PVar:
		w.tell(2, p.At, slices.Contains(names, p.Name))
		return append(names, p.Name)
	case api.PCon:
		many, has := w.con(p.Name)
		w.tell(3, p.At, !has)
		w.tell(4, p.At, has && many != len(p.Kids))
	}
	for _, kid := range p.Kids {
		names = w.pat(kid, names)
	}
	return names
}
