package kindof_test

import (
	"slices"

	"fugue/api"
)

// A term is a kind of which something may not be known: what is not known has a number; else it is the kind of types, or
// leads from one to another.
type term struct {
	n        int
	from, to *term
}

// asked is two terms that have to be one.
type asked struct{ a, b *term }

// words finds kinds by the chapter's words: all that is asked is written down first, and gone through then, term by term,
// each one written out with all that is known.
type words struct {
	made    int
	asked   []asked
	none    bool // whether a name is asked for that there is not, or a type that is of no kind
	datas   map[string][]*term
	classes map[string]*term
	is      map[int]*term
}

func (w *words) fresh() *term {
	w.made++
	return &term{n: w.made}
}

func (w *words) freshAll(n int) []*term {
	var l []*term
	for range n {
		l = append(l, w.fresh())
	}
	return l
}

func (w *words) ask(a, b *term) { w.asked = append(w.asked, asked{a, b}) }

// ofKind is the term of a kind in which all is known.
func ofKind(k api.Kind) *term {
	if len(k.From) == 0 {
		return &term{}
	}
	return &term{from: ofKind(k.From[0]), to: ofKind(api.Kind{From: k.From[1:]})}
}

func leadingTo(to *term, from ...*term) *term {
	for _, x := range slices.Backward(from) {
		to = &term{from: x, to: to}
	}
	return to
}

// kind is a type's term: of what is given others all of them at once.
func (w *words) kind(t api.Type, vars map[string]*term) *term {
	var args []*term
	for t.Form == api.TApp {
		args = append([]*term{w.kind(t.Args[1], vars)}, args...)
		t = t.Args[0]
	}
	head := vars[t.Name]
	if t.Form == api.TCon {
		if l, has := w.datas[t.Name]; has {
			head = leadingTo(&term{}, l...)
		} else {
			head = nil
		}
	}
	if head == nil || t.Form != api.TVar && t.Form != api.TCon {
		w.none = true
		return &term{}
	}
	to := w.fresh()
	w.ask(head, leadingTo(to, args...))
	return to
}

func (w *words) pred(p api.Pred, vars map[string]*term) {
	class := w.classes[p.Class]
	if class == nil {
		w.none = true
		return
	}
	w.ask(w.kind(p.Type, vars), class)
}

// scheme asks what a scheme asks, and is the terms of its Vars.
func (w *words) scheme(s api.Scheme, given map[string]*term) []*term {
	vars := map[string]*term{}
	var l []*term
	for _, name := range s.Vars {
		vars[name] = given[name]
		if vars[name] == nil {
			vars[name] = w.fresh()
		}
		l = append(l, vars[name])
	}
	for _, p := range s.Preds {
		w.pred(p, vars)
	}
	w.ask(&term{}, w.kind(s.Type, vars))
	return l
}

// out is a term, written out with all that is known.
func (w *words) out(t *term) *term {
	switch {
	case t.n > 0 && w.is[t.n] != nil:
		return w.out(w.is[t.n])
	case t.from != nil:
		return &term{from: w.out(t.from), to: w.out(t.to)}
	}
	return t
}

func comes(n int, t *term) bool {
	return t.n == n || t.from != nil && (comes(n, t.from) || comes(n, t.to))
}

// solves tells whether there are kinds by which all that is asked holds, and learns them.
func (w *words) solves() bool {
	w.is = map[int]*term{}
	if w.none {
		return false
	}
	for left := slices.Clone(w.asked); len(left) > 0; {
		last := left[len(left)-1]
		left = left[:len(left)-1]
		a, b := w.out(last.a), w.out(last.b)
		if b.n > 0 {
			a, b = b, a
		}
		switch {
		case a.n > 0 && a.n == b.n:
		case a.n > 0 && comes(a.n, b):
			return false
		case a.n > 0:
			w.is[a.n] = b
		case (a.from == nil) != (b.from == nil):
			return false
		case a.from != nil:
			left = append(left, asked{a.to, b.to}, asked{a.from, b.from})
		}
	}
	return true
}

// told is the kind that a term is found to be: `*` where nothing is asked.
func (w *words) told(t *term) api.Kind {
	var k api.Kind
	for t = w.out(t); t.from != nil; t = t.to {
		k.From = append(k.From, w.told(t.from))
	}
	return k
}

func (w *words) toldAll(l []*term) []api.Kind {
	var all []api.Kind
	for _, t := range l {
		all = append(all, w.told(t))
	}
	return all
}

// wordsOf knows the prelude, and a program by its kinds.
func wordsOf(p api.Program) *words {
	w := &words{datas: map[string][]*term{"->": {{}, {}}, "Int": nil, "Bool": nil}, classes: map[string]*term{}}
	for _, d := range p.Datas {
		w.datas[d.Name] = nil
		for _, k := range d.Kinds {
			w.datas[d.Name] = append(w.datas[d.Name], ofKind(k))
		}
	}
	for _, c := range p.Classes {
		w.classes[c.Name] = ofKind(c.Kind)
	}
	return w
}

// comesIn tells all constructors that come in a type.
func comesIn(t api.Type) []string {
	l := []string{}
	if t.Form == api.TCon {
		l = append(l, t.Name)
	}
	for _, a := range t.Args {
		l = append(l, comesIn(a)...)
	}
	return l
}

// inGroups is the groups of things that use one another, in chapter 7's row: found by asking again and again who comes by
// way of others.
func inGroups(names []string, uses func(i int) []string) [][]int {
	n := len(names)
	leads := make([][]bool, n)
	for i := range leads {
		leads[i] = make([]bool, n)
		leads[i][i] = true
		for _, name := range uses(i) {
			if j := slices.Index(names, name); j >= 0 {
				leads[i][j] = true
			}
		}
	}
	for k := range n {
		for i := range n {
			for j := range n {
				leads[i][j] = leads[i][j] || leads[i][k] && leads[k][j]
			}
		}
	}
	var row [][]int
	told := make([]bool, n)
	for i := 0; i < n; i++ {
		ready := !told[i]
		var group []int
		for j := range n {
			both := leads[i][j] && leads[j][i]
			if both {
				group = append(group, j)
			}
			ready = ready && (!leads[i][j] || both || told[j])
		}
		if ready {
			for _, j := range group {
				told[j] = true
			}
			row = append(row, group)
			i = -1
		}
	}
	return row
}

// found looks for a group's kinds with more and more of its declarations, by their places, each time from the beginning.
// begin asks nothing; ask asks what one of them does. It tells the place at which there are none.
func found(p api.Program, group []int, at func(i int) int, begin, ask func(w *words, i int)) (*words, api.At) {
	by := slices.Clone(group)
	slices.SortFunc(by, func(i, j int) int { return at(i) - at(j) })
	for last := range by {
		w := wordsOf(p)
		for _, i := range group {
			begin(w, i)
		}
		for _, i := range by[:last+1] {
			ask(w, i)
		}
		if !w.solves() {
			return nil, api.At{Errno: api.ErrKind, At: at(by[last])}
		}
		if last == len(by)-1 {
			return w, api.At{}
		}
	}
	return wordsOf(p), api.At{}
}

// kindsOf is what Kinds tells. The program is changed.
func kindsOf(p *api.Program) api.At {
	for _, step := range []func(p *api.Program) api.At{datasOf, classesOf, instsOf, sigsOf} {
		if at := step(p); at != (api.At{}) {
			return at
		}
	}
	return api.At{}
}

func datasOf(p *api.Program) api.At {
	l := p.Datas
	known := *p
	known.Datas, known.Classes = nil, nil
	var names []string
	for _, d := range l {
		names = append(names, d.Name)
	}
	rows := inGroups(names, func(i int) []string {
		var all []string
		for _, c := range l[i].Cons {
			for _, t := range c.Fields {
				all = append(all, comesIn(t)...)
			}
		}
		return all
	})
	for _, group := range rows {
		w, at := found(known, group, func(i int) int { return l[i].At }, func(w *words, i int) {
			w.datas[l[i].Name] = w.freshAll(len(l[i].Vars))
		}, func(w *words, i int) {
			vars := map[string]*term{}
			for j, name := range l[i].Vars {
				vars[name] = w.datas[l[i].Name][j]
			}
			for _, c := range l[i].Cons {
				for _, t := range c.Fields {
					w.ask(w.kind(t, vars), &term{})
				}
			}
		})
		if at != (api.At{}) {
			return at
		}
		for _, i := range group {
			l[i].Kinds = w.toldAll(w.datas[l[i].Name])
			known.Datas = append(known.Datas, l[i])
		}
	}
	return api.At{}
}

func classesOf(p *api.Program) api.At {
	l := p.Classes
	known := *p
	known.Classes = nil
	var names []string
	for _, c := range l {
		names = append(names, c.Name)
	}
	rows := inGroups(names, func(i int) []string {
		all := slices.Clone(l[i].Supers)
		for _, m := range l[i].Methods {
			for _, x := range m.Type.Preds {
				all = append(all, x.Class)
			}
		}
		return all
	})
	for _, group := range rows {
		methods := map[string][]*term{}
		w, at := found(known, group, func(i int) int { return l[i].At }, func(w *words, i int) {
			w.classes[l[i].Name] = w.fresh()
		}, func(w *words, i int) {
			for _, name := range l[i].Supers {
				w.ask(w.classes[name], w.classes[l[i].Name])
			}
			for _, m := range l[i].Methods {
				methods[m.Name] = w.scheme(m.Type, map[string]*term{l[i].Var: w.classes[l[i].Name]})
			}
		})
		if at != (api.At{}) {
			return at
		}
		for _, i := range group {
			l[i].Kind = w.told(w.classes[l[i].Name])
			for j, m := range l[i].Methods {
				l[i].Methods[j].Type.Kinds = w.toldAll(methods[m.Name])
			}
			known.Classes = append(known.Classes, l[i])
		}
	}
	return api.At{}
}

func instsOf(p *api.Program) api.At {
	for _, x := range p.Insts {
		w := wordsOf(*p)
		all, class := w.datas[x.Con], w.classes[x.Class]
		if len(all) < len(x.Vars) {
			return api.At{Errno: api.ErrKind, At: x.At}
		}
		vars := map[string]*term{}
		for i, name := range x.Vars {
			vars[name] = all[i]
		}
		w.ask(leadingTo(&term{}, all[len(x.Vars):]...), class)
		for _, y := range x.Preds {
			w.pred(y, vars)
		}
		if !w.solves() {
			return api.At{Errno: api.ErrKind, At: x.At}
		}
	}
	return api.At{}
}

// schemeOf is what Scheme tells.
func schemeOf(p api.Program, s api.Scheme) (api.Scheme, api.Errno) {
	w := wordsOf(p)
	l := w.scheme(s, nil)
	if !w.solves() {
		return api.Scheme{}, api.ErrKind
	}
	s.Kinds = w.toldAll(l)
	return s, api.OK
}

func sigsOf(p *api.Program) api.At {
	var refused []int
	one := func(at int, s *api.Scheme) {
		x, e := schemeOf(*p, *s)
		if e != api.OK {
			refused = append(refused, at)
		}
		*s = x
	}
	eachSig(p, one)
	if len(refused) > 0 {
		return api.At{Errno: api.ErrKind, At: slices.Min(refused)}
	}
	return api.At{}
}

// eachSig tells all signatures of a program but its methods'.
func eachSig(p *api.Program, see func(at int, s *api.Scheme)) {
	var within func(e *api.Exp)
	binds := func(l []api.Bind) {
		for i := range l {
			if l[i].Has {
				see(l[i].At, &l[i].Sig)
			}
			within(&l[i].Body)
		}
	}
	within = func(e *api.Exp) {
		if e.Form == api.EAnn {
			see(e.At, &e.Sig)
		}
		binds(e.Binds)
		for i := range e.Kids {
			within(&e.Kids[i])
		}
	}
	binds(p.Binds)
	for i := range p.Insts {
		binds(p.Insts[i].Binds)
	}
}

// kindIn is what Of tells: kinds are held against one another as they stand.
func kindIn(p api.Program, vars map[string]api.Kind, t api.Type) (api.Kind, bool) {
	switch t.Form {
	case api.TVar:
		k, has := vars[t.Name]
		return k, has
	case api.TCon:
		for _, d := range append([]api.Data{{Name: "->", Kinds: make([]api.Kind, 2)}, {Name: "Int"}, {Name: "Bool"}}, p.Datas...) {
			if d.Name == t.Name {
				return api.Kind{From: d.Kinds}, true
			}
		}
	case api.TApp:
		f, is := kindIn(p, vars, t.Args[0])
		x, is2 := kindIn(p, vars, t.Args[1])
		if is && is2 && len(f.From) > 0 && equal(f.From[0], x) {
			return api.Kind{From: f.From[1:]}, true
		}
	}
	return api.Kind{}, false
}

// equal tells whether two kinds are the same; nil and empty lists are one.
func equal(a, b api.Kind) bool { return slices.EqualFunc(a.From, b.From, equal) }
