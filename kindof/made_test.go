package kindof_test

import (
	"reflect"
	"testing"

	"fugue/api"
	"fugue/kindof"
	"fugue/kinds"
	"fugue/read"
	"fugue/scope"
	"fugue/types"
)

// mixed puts all declarations of a program into another row; their places stay.
func mixed(c *chance, p api.Program) api.Program {
	shuffle(c, p.Datas)
	shuffle(c, p.Classes)
	shuffle(c, p.Insts)
	shuffle(c, p.Binds)
	for _, x := range p.Classes {
		shuffle(c, x.Methods)
		shuffle(c, x.Supers)
	}
	for _, x := range p.Datas {
		shuffle(c, x.Cons)
	}
	return p
}

// made is a program by chance, read twice, as one is to be changed; false, if its source is too long.
func made(t *testing.T, seed int) (api.Program, api.Program, bool) {
	t.Helper()
	m := maker{chance: chance{uint64(seed)*7919 + 1}, seldom: []int{100000, 300, 60, 15}[seed%4], plain: []int{9, 6, 4}[seed%3]}
	src := m.program(m.next(6), m.next(5), m.next(4), m.next(5))
	p, at := read.Program(src)
	q, _ := read.Program(src)
	if at.Errno == api.ErrLong {
		return p, q, false
	}
	if at != (api.At{}) {
		t.Fatal(src, at)
	}
	if at := scope.Check(p); at != (api.At{}) {
		t.Fatal(src, at)
	}
	return p, q, true
}

// sorted tells at which of the refusals of P10.1 a program is refused.
func sorted(p api.Program, at int) string {
	for _, d := range p.Datas {
		if d.At == at {
			return "data"
		}
	}
	for _, c := range p.Classes {
		if c.At == at {
			return "class"
		}
	}
	for _, x := range p.Insts {
		if x.At == at {
			return "instance"
		}
	}
	return "signature"
}

// P10.1: programs made by chance, in other rows, too, held against the chapter's words.
func TestMade(t *testing.T) {
	counts := map[string]int{}
	for seed := range 8000 {
		p, q, is := made(t, seed)
		if !is {
			continue
		}
		if seed%2 == 0 {
			p, q = mixed(&chance{uint64(seed)}, p), mixed(&chance{uint64(seed)}, q)
		}
		src := read.Print(p)
		got, at := kindof.Kinds(p)
		want := kindsOf(&q)
		switch {
		case at != want:
			t.Fatalf("%s: %v, not %v", src, at, want)
		case at.Errno != api.OK && !reflect.DeepEqual(got, api.Program{}):
			t.Fatalf("%s: refused, but %v", src, got)
		case at.Errno != api.OK:
			counts[sorted(p, at.At)]++
		case !alike(reflect.ValueOf(got), reflect.ValueOf(q)):
			t.Fatalf("%s: %v, not %v", src, got, q)
		default:
			counts["ok"]++
			holdsBy(t, src, got)
		}
	}
	t.Log(counts)
	for _, s := range []string{"ok", "data", "class", "instance", "signature"} {
		if counts[s] < 200 {
			t.Error("too few:", s, counts)
		}
	}
}

// alike tells whether two values are the same, where nil and empty lists are one.
func alike(a, b reflect.Value) bool {
	switch a.Kind() {
	case reflect.Slice:
		if a.Len() != b.Len() {
			return false
		}
		for i := range a.Len() {
			if !alike(a.Index(i), b.Index(i)) {
				return false
			}
		}
		return true
	case reflect.Struct:
		for i := range a.NumField() {
			if !alike(a.Field(i), b.Field(i)) {
				return false
			}
		}
		return true
	}
	return a.Equal(b)
}

// holdsBy checks P10.5, and that all else that P10.1 asks holds by the kinds that are told, as Of tells and as the words do.
func holdsBy(t *testing.T, src string, p api.Program) {
	t.Helper()
	is := func(vars []string, l []api.Kind, x api.Type, want api.Kind) {
		t.Helper()
		if len(vars) != len(l) {
			t.Fatalf("%s: as many kinds as %v? %v", src, vars, l)
		}
		by := map[string]api.Kind{}
		for i, name := range vars {
			by[name] = l[i]
		}
		if k, has := kindIn(p, by, x); !has || !equal(k, want) {
			t.Fatalf("%s: %s is of %s, not %s", src, types.Print(x), kinds.Print(k), kinds.Print(want))
		}
		if k, e := kindof.Of(p, vars, l, x); e != api.OK || !equal(k, want) {
			t.Fatalf("%s: Of %s: %s, %v, not %s", src, types.Print(x), kinds.Print(k), e, kinds.Print(want))
		}
	}
	classes := map[string]api.Kind{}
	for _, c := range p.Classes {
		classes[c.Name] = c.Kind
	}
	scheme := func(s api.Scheme) {
		t.Helper()
		is(s.Vars, s.Kinds, s.Type, of())
		for _, x := range s.Preds {
			is(s.Vars, s.Kinds, x.Type, classes[x.Class])
		}
	}
	datas := map[string]api.Data{"Int": {}, "Bool": {}}
	for _, d := range p.Datas {
		datas[d.Name] = d
		for _, c := range d.Cons {
			for _, x := range c.Fields {
				is(d.Vars, d.Kinds, x, of())
			}
		}
	}
	for _, c := range p.Classes {
		for _, name := range c.Supers {
			if !equal(classes[name], c.Kind) {
				t.Fatalf("%s: %s above %s", src, name, c.Name)
			}
		}
		for _, m := range c.Methods {
			scheme(m.Type)
			if !equal(m.Type.Kinds[0], c.Kind) {
				t.Fatalf("%s: %s has another variable", src, m.Name)
			}
		}
	}
	for _, x := range p.Insts {
		l := datas[x.Con].Kinds[:len(x.Vars)]
		head := types.Con(x.Con)
		for _, name := range x.Vars {
			head = types.App(head, types.Var(name))
		}
		is(x.Vars, l, head, classes[x.Class])
		for _, y := range x.Preds {
			is(x.Vars, l, y.Type, classes[y.Class])
		}
	}
	eachSig(&p, func(at int, s *api.Scheme) { scheme(*s) })
}

// names is what a program tells of kinds, by the names of what is of them.
func names(p api.Program) map[string]string {
	all := map[string]string{}
	put := func(name string, l ...api.Kind) {
		for _, k := range l {
			all[name] += kinds.Print(k) + ";"
		}
	}
	for _, d := range p.Datas {
		put("data "+d.Name, d.Kinds...)
	}
	for _, c := range p.Classes {
		put("class "+c.Name, c.Kind)
		for _, m := range c.Methods {
			put(m.Name, m.Type.Kinds...)
		}
	}
	eachSig(&p, func(at int, s *api.Scheme) { put("at "+types.Print(types.Meta(at)), s.Kinds...) })
	return all
}

// P10.6: in whatever row the declarations stand, the kinds are the same, or there are none.
func TestAnyRow(t *testing.T) {
	for seed := range 2000 {
		p, _, is := made(t, seed)
		if !is {
			continue
		}
		got, at := kindof.Kinds(p)
		for turn := range 3 {
			other, at2 := kindof.Kinds(mixed(&chance{uint64(seed*3 + turn)}, p))
			if at.Errno != at2.Errno || !reflect.DeepEqual(names(got), names(other)) {
				t.Fatalf("%s: %v, %v, but %v, %v", read.Print(p), names(got), at, names(other), at2)
			}
		}
	}
}

// P10.1: which kinds a program has is not looked at: it may have its own, or any.
func TestKindsAreNotLookedAt(t *testing.T) {
	for seed := range 2000 {
		p, q, is := made(t, seed)
		if !is {
			continue
		}
		want, at := kindof.Kinds(p)
		again, at2 := kindof.Kinds(want)
		if at.Errno == api.OK && (at2 != at || !alike(reflect.ValueOf(again), reflect.ValueOf(want))) {
			t.Fatal(read.Print(p), at2)
		}
		c := chance{uint64(seed)}
		any := func() []api.Kind { return make([]api.Kind, c.next(4)) }
		for i := range q.Datas {
			q.Datas[i].Kinds = any()
		}
		for i := range q.Classes {
			q.Classes[i].Kind.From = any()
			for j := range q.Classes[i].Methods {
				q.Classes[i].Methods[j].Type.Kinds = any()
			}
		}
		eachSig(&q, func(at int, s *api.Scheme) { s.Kinds = any() })
		if got, at2 := kindof.Kinds(q); at2 != at || !alike(reflect.ValueOf(got), reflect.ValueOf(want)) {
			t.Fatal(read.Print(p), at2)
		}
	}
}
