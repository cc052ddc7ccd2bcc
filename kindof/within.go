package kindof

import (
	"iter"

	"fugue/api"
)

// own is a program all of whose places for kinds are in memory of its own; the rest is as it was handed in.
func own(p api.Program) api.Program {
	p.Datas = each(p.Datas, func(d api.Data) api.Data { return d })
	p.Classes = each(p.Classes, func(c api.Class) api.Class {
		c.Methods = each(c.Methods, func(m api.Sig) api.Sig { return m })
		return c
	})
	p.Insts = each(p.Insts, func(x api.Inst) api.Inst {
		x.Binds = each(x.Binds, ownBind)
		return x
	})
	p.Binds = each(p.Binds, ownBind)
	return p
}

func ownBind(b api.Bind) api.Bind {
	b.Body = ownExp(b.Body)
	return b
}

func ownExp(e api.Exp) api.Exp {
	e.Binds = each(e.Binds, ownBind)
	e.Kids = each(e.Kids, ownExp)
	return e
}

// each is what f tells of each thing, in memory of its own.
func each[T, U any](l []T, f func(x T) U) []U {
	if len(l) == 0 {
		return nil
	}
	out := make([]U, len(l))
	for i, x := range l {
		out[i] = f(x)
	}
	return out
}

// sigs tells all signatures of binds, and of the names and annotations within their bodies, each with its place.
func sigs(l []api.Bind) iter.Seq2[int, *api.Scheme] {
	return func(yield func(at int, s *api.Scheme) bool) { sigsOfBinds(l, yield) }
}

func sigsOfBinds(l []api.Bind, yield func(at int, s *api.Scheme) bool) bool {
	for i := range l {
		b := &l[i]
		if b.Has && !yield(b.At, &b.Sig) || !sigsWithin(&b.Body, yield) {
			return false
		}
	}
	return true
}

func sigsWithin(e *api.Exp, yield func(at int, s *api.Scheme) bool) bool {
	if e.Form == api.EAnn && !yield(e.At, &e.Sig) || !sigsOfBinds(e.Binds, yield) {
		return false
	}
	for i := range e.Kids {
		if !sigsWithin(&e.Kids[i], yield) {
			return false
		}
	}
	return true
}

// consWithin is the constructors of types that come in a data type's fields.
func consWithin(d api.Data) []string {
	var names []string
	var see func(t api.Type)
	see = func(t api.Type) {
		if t.Form == api.TCon {
			names = append(names, t.Name)
		}
		for _, a := range t.Args {
			see(a)
		}
	}
	for _, c := range d.Cons {
		for _, t := range c.Fields {
			see(t)
		}
	}
	return names
}
