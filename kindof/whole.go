package kindof

import (
	"cmp"
	"slices"

	"fugue/api"
	"fugue/kinds"
	"fugue/scc"
)

// whole is a program while its kinds are found.
type whole struct {
	*finder
	p api.Program

	// What puts kinds into p. It waits till nothing is refused any more: written out, kinds may be far longer than
	// what the solver keeps of them.
	later []func()
}

// declaration is a data type, or a class: its kinds are found together with those of its group.
type declaration struct {
	name  string
	at    int
	uses  []string // the names of others like it
	begin func()   // makes its kinds, of which nothing is known
	ask   func()   // asks for all that has to hold
}

func (w *whole) dataTypes() api.At {
	var l []declaration
	for i := range w.p.Datas {
		l = append(l, w.data(&w.p.Datas[i]))
	}
	return w.groups(l)
}

func (w *whole) data(d *api.Data) declaration {
	return declaration{
		name: d.Name, at: d.At, uses: consWithin(*d),
		begin: func() {
			vars := w.unknown(len(d.Vars))
			w.datas[d.Name] = vars
			w.later = append(w.later, func() { d.Kinds = w.told(vars) })
		},
		ask: func() {
			vars := named(d.Vars, w.datas[d.Name])
			for _, c := range d.Cons {
				for _, t := range c.Fields {
					w.same(w.kind(t, vars), star())
				}
			}
		},
	}
}

func (w *whole) allClasses() api.At {
	var l []declaration
	for i := range w.p.Classes {
		l = append(l, w.class(&w.p.Classes[i]))
	}
	return w.groups(l)
}

func (w *whole) class(c *api.Class) declaration {
	uses := slices.Clone(c.Supers)
	for _, m := range c.Methods {
		for _, p := range m.Type.Preds {
			uses = append(uses, p.Class)
		}
	}
	return declaration{
		name: c.Name, at: c.At, uses: uses,
		begin: func() {
			w.classes[c.Name] = w.unknown(1)[0]
			w.later = append(w.later, func() { c.Kind = w.Kind(w.classes[c.Name]) })
		},
		ask: func() {
			of := w.classes[c.Name]
			for _, above := range c.Supers {
				w.same(of, there(w.classes, above))
			}
			for i := range c.Methods {
				w.sig(&c.Methods[i].Type, map[string]kinds.Term{c.Var: of})
			}
		},
	}
}

// sig finds a signature's kinds, where some variables have theirs already.
func (w *whole) sig(s *api.Scheme, vars map[string]kinds.Term) {
	l := w.scheme(*s, vars)
	w.later = append(w.later, func() { s.Kinds = w.told(l) })
}

// groups finds the kinds of declarations, group by group.
func (w *whole) groups(l []declaration) api.At {
	places := map[string]int{}
	for i, d := range l {
		places[d.name] = i
	}
	uses := make([][]int, len(l))
	for i, d := range l {
		for _, name := range d.uses {
			if used, has := places[name]; has {
				uses[i] = append(uses[i], used)
			}
		}
	}
	for _, group := range scc.Groups(len(l), uses) {
		if at := w.group(each(group, func(i int) declaration { return l[i] })); at.Errno != api.OK {
			return at
		}
	}
	return api.At{}
}

// group finds the kinds of declarations that hang on one another. They are asked by their places, so that the first one
// that is refused is the group's place.
func (w *whole) group(l []declaration) api.At {
	slices.SortStableFunc(l, func(a, b declaration) int { return cmp.Compare(a.at, b.at) })
	for _, d := range l {
		d.begin()
	}
	for _, d := range l {
		if e := holds(d.ask); e != api.OK {
			return api.At{Errno: e, At: d.at}
		}
	}
	w.settle()
	return api.At{}
}

func (w *whole) instances() api.At {
	for _, x := range w.p.Insts {
		if e := holds(func() { w.instance(x) }); e != api.OK {
			return api.At{Errno: e, At: x.At}
		}
	}
	return api.At{}
}

func (w *whole) instance(x api.Inst) {
	all := there(w.datas, x.Con)
	if len(all) < len(x.Vars) {
		panic(api.ErrKind)
	}
	w.same(leading(all[len(x.Vars):]), there(w.classes, x.Class))
	w.preds(x.Preds, named(x.Vars, all))
}

// signatures finds the kinds of all signatures, each by itself.
func (w *whole) signatures() api.At {
	var first api.At
	lists := [][]api.Bind{w.p.Binds}
	for _, x := range w.p.Insts {
		lists = append(lists, x.Binds)
	}
	for _, l := range lists {
		for at, s := range sigs(l) {
			e := holds(func() { w.sig(s, map[string]kinds.Term{}) })
			if e != api.OK && (first.Errno == api.OK || at < first.At) {
				first = api.At{Errno: e, At: at}
			}
		}
	}
	return first
}
