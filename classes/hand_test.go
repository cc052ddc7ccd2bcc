package classes_test

import (
	"reflect"
	"slices"
	"strconv"
	"testing"

	"fugue/api"
	"fugue/classes"
	"fugue/types"
)

// room is a list with the same things, behind which there is room in which something stands.
func room[T any](l []T, behind T) []T {
	out := append(make([]T, 0, len(l)+2), l...)
	return append(append(out, behind), behind)[:len(l)]
}

// roomy is a program whose lists of classes, of instances, and of what they have, have room behind them.
func roomy(t *testing.T, src string) api.Program {
	t.Helper()
	p := program(t, src)
	p.Classes, p.Insts = room(p.Classes, class("A", -5, "A")), room(p.Insts, inst("room", "T", -5))
	for i := range p.Classes {
		c := &p.Classes[i]
		c.Supers, c.Methods = room(c.Supers, "room"), room(c.Methods, api.Sig{Name: "room"})
	}
	for i := range p.Insts {
		x := &p.Insts[i]
		x.Vars, x.Preds, x.Binds = room(x.Vars, "room"), room(x.Preds, api.Pred{Class: "room"}), room(x.Binds, api.Bind{Name: "room"})
	}
	return p
}

// whole is a value with all that stands in it, the room behind lists, too, in memory of its own.
func whole(v reflect.Value) any {
	switch v.Kind() {
	case reflect.Slice:
		l := []any{v.Len()}
		for i := range v.Cap() {
			l = append(l, whole(v.Slice(0, v.Cap()).Index(i)))
		}
		return l
	case reflect.Struct:
		var l []any
		for i := range v.NumField() {
			l = append(l, whole(v.Field(i)))
		}
		return l
	}
	return v.Interface()
}

func snap(x any) any { return whole(reflect.ValueOf(x)) }

// ask asks an Env for all that it tells.
func ask(e *classes.Env) []any {
	var l []any
	names := append(upTo("", 3), "A", "B", "C", "D", "E", "X", "room", "")
	for _, name := range names {
		c, is := e.Class(name)
		class, place, has := e.Method(name)
		l = append(l, c, is, class, place, has, append([]string{}, e.Above(name)...))
		for _, to := range append(names, "Int", "T") {
			way, is := e.Path(name, to)
			n, has := e.Inst(name, to)
			l = append(l, append([]int{}, way...), is, n, has)
		}
	}
	for i := range e.Len() + 2 {
		l = append(l, e.At(i))
	}
	return append(l, e.Len())
}

// R4, R5: what is handed in is left as it was, room and all; each call tells the same; and what is put into a list that is
// told changes nothing.
func TestHandedIn(t *testing.T) {
	for _, src := range []string{
		much, "class A a => A a { }", "instance A Int { } ; instance A Int { }", "class B a => A a { m : a } ; instance B a => A (T a) { m = 1 }", "",
		"class (B a, C a) => A a { } ; class C a => B a { } ; class C a { m : a } ; instance C Int { m = 1 } ; instance E a => C (T a) { m = 2 }",
	} {
		p := roomy(t, src)
		was := snap(p)
		e, at := classes.New(p)
		f, at2 := classes.New(p)
		if at != at2 || (e == nil) != (f == nil) {
			t.Fatal(src, at, at2)
		}
		if e == nil {
			continue
		}
		told := ask(e)
		if !reflect.DeepEqual(told, ask(f)) || !reflect.DeepEqual(told, ask(e)) {
			t.Error(src, "another answer")
		}
		for _, name := range []string{"A", "B", "C", "D", "E"} {
			above := e.Above(name)
			for i := range above[:cap(above)] {
				above[:cap(above)][i] = "spoilt"
			}
			for _, to := range []string{"A", "B", "C", "D", "E"} {
				way, _ := e.Path(name, to)
				for i := range way[:cap(way)] {
					way[:cap(way)][i] = 77
				}
			}
		}
		if !reflect.DeepEqual(snap(p), was) {
			t.Error(src, "changed")
		}
		if !reflect.DeepEqual(told, ask(e)) || !reflect.DeepEqual(told, ask(f)) {
			t.Error(src, "what is told shares memory")
		}
	}
}

// An Env keeps what it was given: what is put into the lists behind it changes nothing of what it tells.
func TestKept(t *testing.T) {
	p := program(t, much)
	e := env(t, p)
	told := ask(e)
	for i := range p.Classes {
		p.Classes[i] = class("Y", 1, "A", "Y")
	}
	for i := range p.Insts {
		p.Insts[i] = inst("Y", "Int", 1)
	}
	if !reflect.DeepEqual(ask(e), told) {
		t.Error("changed")
	}
}

// An Env tells whole parts of what it was given, whatever stands in them.
func TestParts(t *testing.T) {
	c := api.Class{Name: "A", At: 3, Var: "f", Kind: api.Kind{From: []api.Kind{{}}}, Supers: []string{"B"}, Methods: []api.Sig{{Name: "m", At: 4, Type: api.Scheme{Vars: []string{"f"}, Type: types.Var("f")}}}}
	x := api.Inst{Class: "X", At: 5, Con: "T", Vars: []string{"a"}, Preds: []api.Pred{{Class: "A", Type: types.Meta(3)}}, Binds: []api.Bind{{Name: "m", Group: 2}}}
	e := env(t, api.Program{Datas: []api.Data{{Name: "T"}}, Classes: []api.Class{c}, Insts: []api.Inst{x}, Binds: []api.Bind{{Name: "x"}}})
	if got, _ := e.Class("A"); !reflect.DeepEqual(got, c) {
		t.Error(got)
	}
	if got := e.At(0); !reflect.DeepEqual(got, x) {
		t.Error(got)
	}
}

// chain is classes each of which has the next one, and the one behind that, above it; the last one is above none.
func chain(n, step int) []api.Class {
	var l []api.Class
	for i := range n {
		c := class("C"+strconv.Itoa(i), i)
		for by := 1; by <= step && i+by < n; by++ {
			c.Supers = append(c.Supers, "C"+strconv.Itoa(i+by))
		}
		l = append(l, c)
	}
	return l
}

// R1: chains and circles as long as there are classes.
func TestLong(t *testing.T) {
	const n = 150000
	l := chain(n, 1)
	first, last := l[0].Name, l[n-1].Name
	for range 2 {
		e := env(t, api.Program{Classes: l})
		if above := e.Above(first); len(above) != n || above[0] != first || above[n-1] != last {
			t.Error(len(above))
		}
		if way, is := e.Path(first, last); !is || len(way) != n-1 {
			t.Error(len(way))
		}
		if way, is := e.Path(last, first); is {
			t.Error(way)
		}
		slices.Reverse(l)
	}
	l[0].Supers = []string{first, "C" + strconv.Itoa(n/2)}
	for range 2 {
		if _, at := classes.New(api.Program{Classes: l}); at != (api.At{Errno: api.ErrSuper, At: 0}) {
			t.Error(at)
		}
		slices.Reverse(l)
	}
	// A loop far above, and very many classes below it, which are in none.
	l[0].Supers, l[n-1].Supers = []string{l[1].Name}, []string{last}
	if _, at := classes.New(api.Program{Classes: l}); at != (api.At{Errno: api.ErrSuper, At: n - 1}) {
		t.Error(at)
	}
	// And as many between two loops.
	l[0].Supers, l[0].At = []string{first, l[1].Name}, n
	if _, at := classes.New(api.Program{Classes: l}); at != (api.At{Errno: api.ErrSuper, At: n - 1}) {
		t.Error(at)
	}
}

// R1: where there are far more ways than classes.
func TestManyWays(t *testing.T) {
	const n = 400
	l := chain(n, 40)
	e := env(t, api.Program{Classes: l})
	above := e.Above("C0")
	if len(above) != n {
		t.Error(len(above))
	}
	for i, name := range above {
		if name != l[i].Name {
			t.Fatal(i, name)
		}
	}
	// At first as few as may be, then as far as may be.
	if way, _ := e.Path("C0", "C395"); !slices.Equal(way, []int{34, 39, 39, 39, 39, 39, 39, 39, 39, 39}) {
		t.Error(way)
	}
	l[n-1].Supers = []string{"C0"}
	if _, at := classes.New(api.Program{Classes: l}); at != (api.At{Errno: api.ErrSuper, At: 0}) {
		t.Error(at)
	}
}

// R1: very many instances.
func TestManyInsts(t *testing.T) {
	const n = 100000
	p := api.Program{Classes: chain(3, 2)}
	for i := range n {
		for _, c := range p.Classes {
			p.Insts = append(p.Insts, inst(c.Name, "T"+strconv.Itoa(i), 3*i))
		}
	}
	e := env(t, p)
	if i, is := e.Inst("C1", "T777"); i != 3*777+1 || !is || e.At(i).Con != "T777" || e.Len() != 3*n {
		t.Error(i, is)
	}
	p.Insts = p.Insts[:3*n-1]
	if _, at := classes.New(p); at != (api.At{Errno: api.ErrSuper, At: 3 * (n - 1)}) {
		t.Error(at)
	}
	for i := range p.Insts {
		p.Insts[i] = inst("C2", "T", 3*n-i)
	}
	if _, at := classes.New(p); at != (api.At{Errno: api.ErrOverlap, At: 2}) {
		t.Error(at)
	}
}

// What the document says in its examples.
func TestExamples(t *testing.T) {
	e := of(t, "class B a => A a { } ; class C a => B a { } ; class C a { }")
	if l := e.Above("A"); !slices.Equal(l, []string{"A", "B", "C"}) {
		t.Error(l)
	}
	if l, is := e.Path("A", "C"); !is || !slices.Equal(l, []int{0, 0}) {
		t.Error(l)
	}
}
