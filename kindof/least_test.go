package kindof_test

import (
	"testing"

	"fugue/api"
	"fugue/kindof"
	"fugue/kinds"
	"fugue/types"
)

// below tells whether a kind is another one of which parts are `*`.
func below(a, b api.Kind) bool {
	if len(a.From) > len(b.From) {
		return false
	}
	for i := range a.From {
		if !below(a.From[i], b.From[i]) {
			return false
		}
	}
	return true
}

// small is kinds that are tried.
func small() []api.Kind {
	one, two := of(of()), of(of(), of())
	return []api.Kind{of(), one, two, of(one), of(one, of()), of(of(), one), of(of(one)), of(of(), of(), of())}
}

// rows is all rows of so many small kinds.
func rows(n int) [][]api.Kind {
	if n == 0 {
		return [][]api.Kind{nil}
	}
	var all [][]api.Kind
	for _, l := range rows(n - 1) {
		for _, k := range small() {
			all = append(all, append(l[:len(l):len(l)], k))
		}
	}
	return all
}

// any is some type of few parts, be it of a kind or not.
func (c *chance) any(heads []api.Type, deep int) api.Type {
	if deep == 0 || c.next(3) == 0 {
		return heads[c.next(len(heads))]
	}
	if c.next(4) == 0 {
		return types.Fun(c.any(heads, deep-1), c.any(heads, deep-1))
	}
	return types.App(c.any(heads, deep-1), c.any(heads, deep-1))
}

// held holds what was found, or that nothing was, against all rows of small kinds by which all that is asked holds.
func held(t *testing.T, found []api.Kind, e api.Errno, n int, holds func(l []api.Kind) bool, what func() string) int {
	t.Helper()
	many := 0
	if e == api.OK && !holds(found) {
		t.Fatal(what(), prints(found), "does not hold")
	}
	for _, l := range rows(n) {
		if !holds(l) {
			continue
		}
		many++
		if e != api.OK {
			t.Fatal(what(), e, "but it holds by", prints(l))
		}
		for i, k := range found {
			if !below(k, l[i]) {
				t.Fatalf("%s: more than is asked: %v, as it holds by %v", what(), prints(found), prints(l))
			}
		}
	}
	return many
}

func by(names []string, l []api.Kind) map[string]api.Kind {
	vars := map[string]api.Kind{}
	for i, name := range names {
		vars[name] = l[i]
	}
	return vars
}

// isOf tells whether a type is of a kind.
func isOf(p api.Program, vars map[string]api.Kind, t api.Type, want api.Kind) bool {
	k, is := kindIn(p, vars, t)
	return is && equal(k, want)
}

// P10.3: the kinds of a scheme tell no more than is asked, and there are some, if any do.
func TestLeastOfScheme(t *testing.T) {
	p := kinded(t, "data L a = N ; data H f = H (f Int) ; class E a { e : a } ; class F f { f : f Int }")
	classes := map[string]api.Kind{"E": of(), "F": of(of())}
	names := []string{"a", "b", "c"}
	heads := []api.Type{types.Var("a"), types.Var("b"), types.Var("c"), types.Var("a"), types.Var("b"), types.Var("c"), types.Con("Int"), types.Con("L"), types.Con("H"), types.Con("->")}
	c, some, none := chance{5}, 0, 0
	for range 1500 {
		s := api.Scheme{Vars: names, Type: c.any(heads, 3)}
		for range c.next(3) {
			s.Preds = append(s.Preds, api.Pred{Class: []string{"E", "F"}[c.next(2)], Type: c.any(heads, 1)})
		}
		got, e := kindof.Scheme(p, s)
		many := held(t, got.Kinds, e, 3, func(l []api.Kind) bool {
			vars := by(names, l)
			for _, x := range s.Preds {
				if !isOf(p, vars, x.Type, classes[x.Class]) {
					return false
				}
			}
			return isOf(p, vars, s.Type, of())
		}, func() string { return types.Print(s.Type) })
		if many > 0 {
			some++
		} else {
			none++
		}
	}
	t.Log(some, none)
	if some < 200 || none < 200 {
		t.Error("too few:", some, none)
	}
}

// P10.1: so do the kinds of a group of data types.
func TestLeastOfDatas(t *testing.T) {
	first, second := []string{"a", "b"}, []string{"c"}
	c, some, none := chance{8}, 0, 0
	field := func(vars []string) api.Type {
		var heads []api.Type
		for _, name := range append(vars, vars...) {
			heads = append(heads, types.Var(name))
		}
		one := func() api.Type { return c.any(append(heads, types.Con("Int")), 1) }
		switch c.next(3) {
		case 0:
			return types.App(types.Con("A"), one(), one())
		case 1:
			return types.App(types.Con("B"), one())
		}
		return types.App(heads[c.next(len(heads))], one())
	}
	for range 2000 {
		l := []api.Data{
			{Name: "A", At: 1, Vars: first, Cons: []api.Con{{Name: "X"}, {Name: "Y", Fields: []api.Type{types.App(types.Con("B"), types.Var("a"))}}}},
			{Name: "B", At: 2, Vars: second, Cons: []api.Con{{Name: "Z", Fields: []api.Type{types.App(types.Con("A"), types.Var("c"), types.Con("Int"))}}}},
		}
		if c.next(2) == 0 {
			l[1].Cons[0].Fields[0] = types.App(types.Con("A"), types.Con("Int"), types.Var("c"))
		}
		for range c.next(3) {
			l[0].Cons[0].Fields = append(l[0].Cons[0].Fields, field(first))
		}
		for range c.next(2) {
			l[1].Cons[0].Fields = append(l[1].Cons[0].Fields, field(second))
		}
		p := api.Program{Datas: l}
		q, at := kindof.Kinds(p)
		var found []api.Kind
		for _, d := range q.Datas {
			found = append(found, d.Kinds...)
		}
		// The place is at the first one, just if by no kinds at all it holds without the second one.
		holds := func(l []api.Kind, many int) bool {
			p := api.Program{Datas: []api.Data{p.Datas[0], p.Datas[1]}}
			p.Datas[0].Kinds, p.Datas[1].Kinds = l[:2], l[2:]
			for _, d := range p.Datas[:many] {
				for _, con := range d.Cons {
					for _, x := range con.Fields {
						if !isOf(p, by(d.Vars, d.Kinds), x, of()) {
							return false
						}
					}
				}
			}
			return true
		}
		what := func() string { return types.Print(types.App(types.Con("Y"), l[0].Cons[1].Fields...)) }
		many := held(t, found, at.Errno, 3, func(l []api.Kind) bool { return holds(l, 2) }, what)
		if at.At == 1 {
			held(t, nil, at.Errno, 3, func(l []api.Kind) bool { return holds(l, 1) }, what)
		}
		if many > 0 {
			some++
		} else {
			none++
		}
	}
	t.Log(some, none)
	if some < 200 || none < 200 {
		t.Error("too few:", some, none)
	}
}

// P10.1: so do the kinds of a class, and of its methods.
func TestLeastOfClass(t *testing.T) {
	heads := []api.Type{types.Var("a"), types.Var("a"), types.Var("b"), types.Var("c"), types.Var("b"), types.Con("Int"), types.Con("L")}
	datas := []api.Data{{Name: "L", Vars: []string{"x"}}}
	c, some, none := chance{13}, 0, 0
	for range 1000 {
		own := api.Pred{Class: "E", Type: types.Var("a")}
		m := api.Scheme{Vars: []string{"a", "b"}, Preds: []api.Pred{own}, Type: c.any(heads[:3], 2)}
		n := api.Scheme{Vars: []string{"a", "c", "b"}, Preds: []api.Pred{own}, Type: c.any(heads, 2)}
		if c.next(2) == 0 {
			n.Preds = append(n.Preds, api.Pred{Class: "E", Type: c.any(heads, 1)})
		}
		if c.next(2) == 0 { // the variable is the class's own without its predicate, too
			m.Preds, n.Preds = nil, n.Preds[1:]
		}
		p := api.Program{Datas: datas, Classes: []api.Class{{Name: "E", At: 3, Var: "a", Methods: []api.Sig{{Name: "m", Type: m}, {Name: "n", Type: n}}}}}
		q, at := kindof.Kinds(p)
		p.Datas = []api.Data{{Name: "L", Kinds: []api.Kind{of()}}}
		var found []api.Kind
		if at.Errno == api.OK {
			l := q.Classes[0].Methods
			found = []api.Kind{q.Classes[0].Kind, l[0].Type.Kinds[1], l[1].Type.Kinds[1], l[1].Type.Kinds[2]}
			if !equal(l[0].Type.Kinds[0], found[0]) || !equal(l[1].Type.Kinds[0], found[0]) {
				t.Fatal(kinds.Print(found[0]))
			}
		}
		many := held(t, found, at.Errno, 4, func(l []api.Kind) bool {
			vars := map[string]api.Kind{"a": l[0], "b": l[1]}
			if !isOf(p, vars, m.Type, of()) {
				return false
			}
			vars["c"], vars["b"] = l[2], l[3]
			for _, x := range n.Preds {
				if !isOf(p, vars, x.Type, l[0]) {
					return false
				}
			}
			return isOf(p, vars, n.Type, of())
		}, func() string { return types.Print(m.Type) + " ; " + types.Print(n.Type) })
		if many > 0 {
			some++
		} else {
			none++
		}
	}
	t.Log(some, none)
	if some < 100 || none < 100 {
		t.Error("too few:", some, none)
	}
}
