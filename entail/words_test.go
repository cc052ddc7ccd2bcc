package entail_test

import (
	"slices"
	"testing"

	"fugue/api"
	"fugue/classes"
	"fugue/entail"
	"fugue/types"
)

// words is what is given, gone through by the chapter's words.
type words struct {
	e       *classes.Env
	classes []string // those that there are
	given   []api.Pred
}

func one(a, b api.Pred) bool { return a.Class == b.Class && types.Same(a.Type, b.Type) }

// asked is an instance's Preds, a predicate's types put in, if it may be of that one.
func asked(x api.Inst, p api.Pred) ([]api.Pred, bool) {
	first, args := types.Spine(p.Type)
	if x.Class != p.Class || first.Form != api.TCon || first.Name != x.Con || len(args) != len(x.Vars) {
		return nil, false
	}
	var l []api.Pred
	for _, q := range x.Preds {
		l = append(l, api.Pred{Class: q.Class, Type: types.Subst(q.Type, x.Vars, args)})
	}
	return l, true
}

// by is how a predicate holds, as the words say it: any number of them, as they may be used more than once.
func (w words) by(p api.Pred) (api.Evid, bool) {
	for i, g := range w.given {
		path, is := w.e.Path(g.Class, p.Class)
		if !is || !types.Same(g.Type, p.Type) {
			continue
		}
		v := api.Evid{Form: api.VGiven, N: i}
		for _, n := range path {
			v = api.Evid{Form: api.VSuper, N: n, Kids: []api.Evid{v}}
		}
		return v, true
	}
	for n := range w.e.Len() {
		l, is := asked(w.e.At(n), p)
		if !is {
			continue
		}
		v := api.Evid{Form: api.VInst, N: n}
		for _, q := range l {
			kid, holds := w.by(q)
			if !holds {
				return api.Evid{}, false
			}
			v.Kids = append(v.Kids, kid)
		}
		return v, true
	}
	return api.Evid{}, false
}

// all is all evidence of a predicate that there is, in print.
func (w words) all(p api.Pred) []string {
	var l []string
	for i, g := range w.given {
		if one(g, p) {
			l = append(l, entail.Print(api.Evid{Form: api.VGiven, N: i}))
		}
	}
	for _, name := range w.classes {
		class, _ := w.e.Class(name)
		for n, super := range class.Supers {
			if super != p.Class {
				continue
			}
			for _, kid := range w.all(api.Pred{Class: name, Type: p.Type}) {
				l = append(l, entail.Print(api.Evid{Form: api.VSuper, N: n})[:2]+"("+kid+")")
			}
		}
	}
	for n := range w.e.Len() {
		if kids, is := asked(w.e.At(n), p); is {
			start := entail.Print(api.Evid{Form: api.VInst, N: n})
			for _, row := range w.rows(kids) {
				l = append(l, start[:len(start)-1]+row+")")
			}
		}
	}
	return l
}

// rows is all rows of evidence of predicates.
func (w words) rows(l []api.Pred) []string {
	if len(l) == 0 {
		return []string{""}
	}
	last := len(l) - 1
	var all []string
	for _, ahead := range w.rows(l[:last]) {
		for _, v := range w.all(l[last]) {
			if last > 0 {
				v = ahead + ", " + v
			}
			all = append(all, v)
		}
	}
	return all
}

func head(p api.Pred) bool {
	first, _ := types.Spine(p.Type)
	return first.Form == api.TVar || first.Form == api.TMeta
}

// heads is what Head has to tell.
func (w words) heads(l []api.Pred) ([]api.Pred, bool) {
	var all []api.Pred
	for _, p := range l {
		told, is := w.headsOf(p)
		if !is {
			return nil, false
		}
		for _, q := range told {
			if !slices.ContainsFunc(all, func(r api.Pred) bool { return one(q, r) }) {
				all = append(all, q)
			}
		}
	}
	return all, true
}

func (w words) headsOf(p api.Pred) ([]api.Pred, bool) {
	if head(p) {
		return []api.Pred{p}, true
	}
	for n := range w.e.Len() {
		if l, is := asked(w.e.At(n), p); is {
			return w.heads(l)
		}
	}
	return nil, false
}

// simple is what Simple has to tell of heads.
func (w words) simple(l []api.Pred) []api.Pred {
	l = slices.Clone(l)
	for i := 0; i < len(l); {
		others := slices.Delete(slices.Clone(l), i, i+1)
		if _, holds := (words{w.e, w.classes, others}).by(l[i]); holds {
			l = others
		} else {
			i++
		}
	}
	return l
}

// is tells whether evidence is a predicate's.
func (w words) is(p api.Pred, v api.Evid) bool {
	switch v.Form {
	case api.VGiven:
		return v.N >= 0 && v.N < len(w.given) && len(v.Kids) == 0 && one(w.given[v.N], p)
	case api.VSuper:
		if len(v.Kids) != 1 {
			return false
		}
		below := w.class(v.Kids[0])
		class, _ := w.e.Class(below)
		return v.N >= 0 && v.N < len(class.Supers) && class.Supers[v.N] == p.Class && w.is(api.Pred{Class: below, Type: p.Type}, v.Kids[0])
	case api.VInst:
		l, may := asked(w.e.At(v.N), p)
		if !may || len(l) != len(v.Kids) {
			return false
		}
		for i, q := range l {
			if !w.is(q, v.Kids[i]) {
				return false
			}
		}
		return true
	}
	return false
}

// class is what evidence tells of its predicate's class.
func (w words) class(v api.Evid) string {
	switch {
	case v.Form == api.VGiven && v.N >= 0 && v.N < len(w.given):
		return w.given[v.N].Class
	case v.Form == api.VInst:
		return w.e.At(v.N).Class
	case v.Form == api.VSuper && len(v.Kids) == 1:
		class, _ := w.e.Class(w.class(v.Kids[0]))
		if v.N >= 0 && v.N < len(class.Supers) {
			return class.Supers[v.N]
		}
	}
	return ""
}

// holds holds By, and Check of what it tells, against the words.
func (w words) holds(t *testing.T, p api.Pred) (api.Evid, bool) {
	t.Helper()
	v, errno := entail.By(w.e, w.given, p)
	want, holds := w.by(p)
	if holds != (errno == api.OK) || errno != api.OK && errno != api.ErrInst || entail.Print(v) != entail.Print(want) {
		t.Fatal(text(w.given), "|", text([]api.Pred{p}), v, want, errno)
	}
	if entail.Check(w.e, w.given, p, v) != holds {
		t.Fatal(text(w.given), "|", text([]api.Pred{p}), v)
	}
	return v, holds
}

// shown is evidence, and its print.
type shown struct {
	v    api.Evid
	text string
}

// follows holds Check of all evidence that there is, and of each of some, against the words.
func (w words) follows(t *testing.T, p api.Pred, some []shown) {
	t.Helper()
	all := map[string]bool{}
	for _, s := range w.all(p) {
		all[s] = true
		if v := evid(t, s); !entail.Check(w.e, w.given, p, v) || !w.is(p, v) {
			t.Fatal(text(w.given), "|", text([]api.Pred{p}), s)
		}
	}
	for _, s := range some {
		if entail.Check(w.e, w.given, p, s.v) != all[s.text] {
			t.Fatal(text(w.given), "|", text([]api.Pred{p}), s.text)
		}
	}
}

// simplifies holds Head and Simple against the words, and tells whether there are any.
func (w words) simplifies(t *testing.T, l []api.Pred) bool {
	t.Helper()
	want, is := w.heads(l)
	got, errno := entail.Head(w.e, l)
	simple, other := entail.Simple(w.e, l)
	if errno != other || is != (errno == api.OK) || !is && (errno != api.ErrInst || got != nil || simple != nil) {
		t.Fatal(text(l), errno, other)
	}
	if text(got) != text(want) || text(simple) != text(w.simple(want)) {
		t.Fatal(text(l), "|", text(got), "|", text(simple), "|", text(w.simple(want)))
	}
	return is
}

// evids is evidence that is nested at most so deep, of at most so many Kids, and with N from 0 on; no Kids of given ones.
func evids(deep, kids, n int) []api.Evid {
	var l []api.Evid
	for i := range n {
		l = append(l, api.Evid{Form: api.VGiven, N: i})
	}
	if deep == 0 {
		return l
	}
	within := evids(deep-1, kids, n)
	var row func(ahead []api.Evid)
	row = func(ahead []api.Evid) {
		for i := range n {
			l = append(l, api.Evid{Form: api.VSuper, N: i, Kids: ahead}, api.Evid{Form: api.VInst, N: i, Kids: ahead})
		}
		if len(ahead) == kids {
			return
		}
		for _, v := range within {
			row(append(slices.Clone(ahead), v))
		}
	}
	row(nil)
	return l
}

// few is classes and instances that are few.
const few = "class E a => O a { } ; class (N a, E a) => M a { } ; class E a { } ; class E a => N a { } ; instance E I { } ; instance (E a, O a) => E (L a) { } ; instance E a => O (L a) { }"

// P12.1, P12.2: all small evidence of all small predicates, where up to two are given.
func TestAllEvidence(t *testing.T) {
	w := words{e: env(t, few), classes: []string{"O", "M", "E", "N"}}
	var some []shown
	for _, v := range evids(2, 2, 3) {
		some = append(some, shown{v, entail.Print(v)})
	}
	var small []api.Pred
	for _, x := range []string{"a", "I", "L a", "L (L a)"} {
		for _, class := range append(w.classes, "Z") {
			small = append(small, pred(t, class+" "+x))
		}
	}
	counts := map[bool]int{}
	tried := 0
	try := func(p api.Pred, given ...api.Pred) {
		w.given = given
		_, is := w.holds(t, p)
		counts[is]++
		tried++
		// Not all of them are held against all evidence, which are many.
		if len(given) == 0 || tried%31 == 0 {
			w.follows(t, p, some)
		} else {
			w.follows(t, p, nil)
		}
	}
	for _, p := range small {
		try(p)
		for _, g := range small[:15] {
			for _, h := range small[:5] {
				try(p, g, h)
			}
		}
	}
	if counts[true] < 300 || counts[false] < 300 {
		t.Error(counts)
	}
}

// P12.3: all rows of up to four small predicates.
func TestAllHeads(t *testing.T) {
	w := words{e: env(t, few), classes: []string{"O", "M", "E", "N"}}
	small := preds(t, "E a, N a, O a, M a, Z a, E b, E (L a), O (L (a I)), N (a I), E I, Z I")
	counts := map[bool]int{}
	var row func(ahead []api.Pred)
	row = func(ahead []api.Pred) {
		counts[w.simplifies(t, ahead)]++
		if len(ahead) == 4 {
			return
		}
		for _, p := range small {
			row(append(slices.Clone(ahead), p))
		}
	}
	row(nil)
	if counts[true] < 1000 || counts[false] < 1000 {
		t.Error(counts)
	}
}
