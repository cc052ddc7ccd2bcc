package entail_test

import (
	"slices"
	"strconv"
	"testing"

	"fugue/api"
	"fugue/classes"
	"fugue/entail"
	"fugue/types"
)

// chance is numbers that are the same ones each time.
type chance uint64

func (c *chance) below(n int) int {
	*c = *c*6364136223846793005 + 1442695040888963407
	return int(*c >> 33 % chance(n))
}

func pick[T any](c *chance, l []T) T { return l[c.below(len(l))] }

// maker makes classes, instances and predicates by chance.
type maker struct {
	chance
	classes []string
	cons    []string // each takes as many types as its place says
}

func makerOf(seed int) *maker {
	m := &maker{chance: chance(seed*7919 + 1), cons: []string{"T0", "T1", "T2"}}
	for i := range 1 + m.below(5) {
		m.classes = append(m.classes, "A"+strconv.Itoa(i))
	}
	return m
}

// class is a class's name; now and then one that is not there.
func (m *maker) class() string {
	if m.below(25) == 0 {
		return "Z"
	}
	return pick(&m.chance, m.classes)
}

// env is of classes, each above some of those behind it, and of instances: where a class has one, so have those above it.
func (m *maker) env() *classes.Env {
	for {
		p := api.Program{}
		for i, name := range m.classes {
			c := api.Class{Name: name, At: i}
			for range m.below(4) {
				if i+1 < len(m.classes) {
					c.Supers = append(c.Supers, pick(&m.chance, m.classes[i+1:]))
				}
			}
			p.Classes = append(p.Classes, c)
		}
		for n, con := range m.cons {
			for _, name := range append(m.classes, "Z") {
				if m.below(3) > 0 {
					p.Insts = append(p.Insts, m.inst(name, con, n))
				}
			}
		}
		slices.SortFunc(p.Insts, func(a, b api.Inst) int { return a.At - b.At })
		if e, _ := classes.New(p); e != nil {
			return e
		}
	}
}

func (m *maker) inst(class, con string, n int) api.Inst {
	if m.below(20) == 0 {
		n = m.below(4)
	}
	x := api.Inst{Class: class, Con: con, At: m.below(1000), Vars: []string{"c", "a", "d"}[:min(n, 3)]}
	if n > 0 {
		for range m.below(4) {
			x.Preds = append(x.Preds, api.Pred{Class: m.class(), Type: types.Var(pick(&m.chance, x.Vars))})
		}
	}
	return x
}

// typ is a type that is nested so deep at most.
func (m *maker) typ(deep int) api.Type {
	n := m.below(11)
	switch {
	case n < 2:
		return types.Var(pick(&m.chance, []string{"a", "b"}))
	case n < 3:
		return types.Meta(1 + m.below(2))
	case n < 4 && deep > 0:
		return types.App(types.Var("f"), m.typ(deep-1))
	case n < 5 && deep > 0:
		return types.App(types.Con(pick(&m.chance, m.cons)), m.typ(deep-1))
	case n < 8 && deep > 0:
		return types.App(types.Con("T1"), m.typ(deep-1))
	case n < 10 && deep > 0:
		return types.App(types.Con("T2"), m.typ(deep-1), m.typ(deep-1))
	}
	return types.Con("T0")
}

func (m *maker) preds(n, deep int) []api.Pred {
	var l []api.Pred
	for range n {
		l = append(l, api.Pred{Class: m.class(), Type: m.typ(m.below(deep + 1))})
	}
	return l
}

// spoil is evidence in which something is changed by chance.
func (m *maker) spoil(v api.Evid) api.Evid {
	v.Kids = slices.Clone(v.Kids)
	if len(v.Kids) > 0 && m.below(3) > 0 {
		i := m.below(len(v.Kids))
		v.Kids[i] = m.spoil(v.Kids[i])
		return v
	}
	switch m.below(5) {
	case 0:
		v.N += m.below(5) - 2
	case 1:
		v.Kids = append(v.Kids, api.Evid{Form: api.VGiven, N: m.below(3)})
	case 2:
		v.Kids = v.Kids[:m.below(len(v.Kids)+1)]
	case 3:
		v = api.Evid{Form: api.VSuper, N: m.below(2), Kids: []api.Evid{v}}
	case 4:
		v.Form = 1 + m.below(3)
	}
	return v
}

// P12.1, P12.2, P12.5: predicates made by chance.
func TestMadeBy(t *testing.T) {
	counts, depths := map[bool]int{}, map[int]int{}
	spoilt := map[bool]int{}
	for seed := range 3000 {
		m := makerOf(seed)
		w := words{e: m.env(), classes: m.classes}
		for range 8 {
			w.given = m.preds(m.below(5), 2)
			p := m.preds(1, 3)[0]
			v, holds := w.holds(t, p)
			counts[holds]++
			depths[deep(v)]++
			for range 10 {
				bad := m.spoil(v)
				is := w.is(p, bad)
				spoilt[is]++
				if entail.Check(w.e, w.given, p, bad) != is {
					t.Fatal(text(w.given), "|", text([]api.Pred{p}), entail.Print(bad), is)
				}
				if entail.Check(w.e, w.given, api.Pred{Type: p.Type}, bad) {
					t.Fatal("of no class:", text(w.given), "|", text([]api.Pred{p}), entail.Print(bad))
				}
			}
			if holds {
				m.more(t, w.e, w.given, p)
			}
		}
	}
	if counts[true] < 4000 || counts[false] < 4000 || depths[2] < 250 || depths[3] < 60 || spoilt[true] < 1000 {
		t.Error(counts, depths, spoilt)
	}
}

func deep(v api.Evid) int {
	n := 0
	for _, kid := range v.Kids {
		n = max(n, 1+deep(kid))
	}
	return n
}

// more holds P12.5 of what holds: with more given, and with types put in, it holds, too.
func (m *maker) more(t *testing.T, e *classes.Env, given []api.Pred, p api.Pred) {
	t.Helper()
	holds := func(given []api.Pred, p api.Pred) {
		if v, errno := entail.By(e, given, p); errno != api.OK || !entail.Check(e, given, p, v) {
			t.Fatal(text(given), "|", text([]api.Pred{p}), v, errno)
		}
	}
	holds(slices.Insert(slices.Clone(given), m.below(len(given)+1), m.preds(2, 2)...), p)
	names := []string{"a", "f"}
	by := []api.Type{m.typ(2), types.Con(pick(&m.chance, m.cons))}
	put := func(p api.Pred) api.Pred {
		p.Type = types.Subst(p.Type, names, by)
		return p
	}
	var l []api.Pred
	for _, g := range given {
		l = append(l, put(g))
	}
	holds(l, put(p))
	// What holds for a class holds for all above it, if it is given.
	for _, class := range e.Above(p.Class) {
		holds([]api.Pred{p}, api.Pred{Class: class, Type: p.Type})
	}
}

// P12.3, P12.6: rows of predicates made by chance.
func TestMadeHeads(t *testing.T) {
	counts, out, many := map[bool]int{}, 0, 0
	for seed := range 3000 {
		m := makerOf(seed)
		w := words{e: m.env(), classes: m.classes}
		for range 8 {
			l := m.preds(m.below(6), 3)
			is := w.simplifies(t, l)
			counts[is]++
			if !is {
				continue
			}
			heads, _ := entail.Head(w.e, l)
			simple, _ := entail.Simple(w.e, l)
			if len(simple) < len(heads) {
				out++
			}
			if len(heads) > 3 {
				many++
			}
			fits(t, w.e, l, heads, simple)
		}
	}
	if counts[true] < 5000 || counts[false] < 4000 || out < 500 || many < 400 {
		t.Error(counts, out, many)
	}
}

// fits holds P12.6 of heads, and of those left over.
func fits(t *testing.T, e *classes.Env, l, heads, simple []api.Pred) {
	t.Helper()
	there := true
	for _, p := range heads {
		_, is := e.Class(p.Class)
		there = there && is
		if !head(p) {
			t.Fatal(text(l), "|", text(heads))
		}
	}
	for i, p := range simple {
		others := slices.Delete(slices.Clone(simple), i, i+1)
		if v, errno := entail.By(e, others, p); errno == api.OK {
			t.Fatal(text(l), "|", text(simple), v)
		}
	}
	for _, p := range l {
		for _, given := range [][]api.Pred{heads, simple} {
			v, errno := entail.By(e, given, p)
			if there && (errno != api.OK || !entail.Check(e, given, p, v)) {
				t.Fatal(text(l), "|", text(given), "|", text([]api.Pred{p}), v, errno)
			}
		}
	}
}
