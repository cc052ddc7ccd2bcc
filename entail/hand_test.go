package entail_test

import (
	"reflect"
	"slices"
	"strconv"
	"testing"

	"fugue/api"
	"fugue/classes"
	"fugue/entail"
	"fugue/types"
)

// room is a list with the same things, behind which there is room in which something stands.
func room[T any](l []T, behind T) []T {
	out := append(make([]T, 0, len(l)+2), l...)
	return append(append(out, behind), behind)[:len(l)]
}

func roomyType(t api.Type) api.Type {
	var l []api.Type
	for _, a := range t.Args {
		l = append(l, roomyType(a))
	}
	t.Args = room(l, types.Con("room"))
	return t
}

func roomyPreds(l []api.Pred) []api.Pred {
	l = room(l, api.Pred{Class: "room"})
	for i := range l {
		l[i].Type = roomyType(l[i].Type)
	}
	return l
}

// whole is a value with all that stands in it, the room behind lists, too, in memory of its own.
func whole(v reflect.Value) any {
	switch v.Kind() {
	case reflect.Slice:
		l := []any{v.Len()}
		for i := range v.Cap() {
			l = append(l, whole(v.Slice(0, v.Cap()).Index(i)))
		}
		return l
	case reflect.Struct:
		var l []any
		for i := range v.NumField() {
			l = append(l, whole(v.Field(i)))
		}
		return l
	}
	return v.Interface()
}

func snap(x any) any { return whole(reflect.ValueOf(x)) }

// spoilType puts something else into a type's lists, the room behind them, too.
func spoilType(t api.Type) {
	for i, a := range t.Args[:cap(t.Args)] {
		spoilType(a)
		t.Args[:cap(t.Args)][i] = types.Con("spoilt")
	}
}

func spoilPreds(l []api.Pred) {
	for i, p := range l[:cap(l)] {
		spoilType(p.Type)
		l[:cap(l)][i] = api.Pred{Class: "spoilt"}
	}
}

func spoilEvid(v api.Evid) {
	for i, kid := range v.Kids[:cap(v.Kids)] {
		spoilEvid(kid)
		v.Kids[:cap(v.Kids)][i] = api.Evid{N: 77}
	}
}

// R4, R5: what is handed in is left as it was, room and all; what is answered is in memory of its own; the same is told
// each time.
func TestHandedIn(t *testing.T) {
	e := env(t, world)
	for _, x := range []struct{ given, l string }{
		{"E a, O (b Int)", "E (P (L a) (b Int)), E (L (P a (b Int))), S (L (a b)), E (P a a), N a, O a"}, {"", "E (P (L Int) Int), E (L Bool)"}, {"O a", "E (P a a), E (L (P a a)), E (P (a b) (a b))"}, {"", ""},
	} {
		given, l := roomyPreds(preds(t, x.given)), roomyPreds(preds(t, x.l))
		was, wasGiven, wasEnv := snap(l), snap(given), snapEnv(e)
		for _, p := range l {
			v, _ := entail.By(e, given, p)
			text := entail.Print(v)
			other, _ := entail.By(e, given, p)
			wasEvid := snap(other)
			entail.Check(e, given, p, other)
			entail.Print(other)
			if !reflect.DeepEqual(snap(other), wasEvid) {
				t.Error(x, "evidence changed")
			}
			spoilEvid(v)
			if again, _ := entail.By(e, given, p); entail.Print(other) != text || entail.Print(again) != text {
				t.Error(x, text)
			}
		}
		for _, f := range []func(*classes.Env, []api.Pred) ([]api.Pred, api.Errno){entail.Head, entail.Simple} {
			one, errno := f(e, l)
			other, errno2 := f(e, l)
			told := text(one)
			spoilPreds(one)
			if again, _ := f(e, l); text(other) != told || text(again) != told || errno != errno2 {
				t.Error(x, told)
			}
		}
		if !reflect.DeepEqual(snap(l), was) || !reflect.DeepEqual(snap(given), wasGiven) || !reflect.DeepEqual(snapEnv(e), wasEnv) {
			t.Error(x, "changed")
		}
	}
}

func snapEnv(e *classes.Env) any {
	var l []any
	for _, name := range []string{"O", "N", "E", "S"} {
		c, _ := e.Class(name)
		l = append(l, snap(c))
	}
	for n := range e.Len() {
		l = append(l, snap(e.At(n)))
	}
	return l
}

// No two lists of one answer share any memory.
func TestApart(t *testing.T) {
	e := env(t, world+"; instance (S a, E a) => S (K a) { } ; instance (S a, S a, E a) => S (B a) { }")
	for _, x := range []struct{ given, p, want, one, other string }{
		{"O a", "E (F a a)", "i10(g0, s1(g0), s1(g0))", "s1(g0)", "s1(g0)"}, {"S Int, E (K Int)", "S (B (K Int))", "i12(i11(g0, i0()), i11(g0, i0()), g1)", "i11(g0, i0())", "g1"},
	} {
		given, p := preds(t, x.given), pred(t, x.p)
		v, _ := entail.By(e, given, p)
		if entail.Print(v) != x.want {
			t.Fatal(v)
		}
		spoilEvid(v.Kids[0])
		if entail.Print(v.Kids[1]) != x.one {
			t.Error(v)
		}
		spoilEvid(v.Kids[1])
		if entail.Print(v.Kids[2]) != x.other {
			t.Error(v)
		}
	}
	shared := types.App(types.Var("f"), types.Var("a"))
	l, _ := entail.Head(e, []api.Pred{{Class: "E", Type: shared}, {Class: "Z", Type: shared}})
	spoilType(l[0].Type)
	if types.Print(l[1].Type) != "f a" || types.Print(shared) != "f a" {
		t.Error(l)
	}
}

// LANGUAGE 4: what may not be handed in makes nothing panic, and all calls end.
func TestBad(t *testing.T) {
	a := types.Var("a")
	list := types.App(types.Con("L"), a)
	e := envOf(t, api.Program{Classes: []api.Class{{Name: "E", Supers: []string{"X"}}, {Name: ""}, {Name: "X"}}, Insts: []api.Inst{
		// Predicates that lead on without an end; of no variable; of one that is none of its Vars; two Vars of one name.
		{Class: "X", Con: "L", Vars: []string{"a"}, Preds: []api.Pred{{Class: "X", Type: types.App(types.Con("L"), list)}}}, {Class: "X", Con: "I", Preds: []api.Pred{{Class: "X", Type: types.Con("I")}}},
		{Class: "X", Con: "J", Preds: []api.Pred{{Class: "X", Type: a}}}, {Class: "X", Con: "P", Vars: []string{"a", "a"}, Preds: []api.Pred{{Class: "X", Type: a}}}, {Class: "X"}, {Class: "X", Con: "Q", Vars: []string{"I"}, Preds: []api.Pred{{Class: "X", Type: types.Con("I")}}},
	}})
	bad := []api.Type{{}, {Form: api.TApp}, {Form: api.TApp, Args: []api.Type{list}}, {Form: api.TApp, Args: []api.Type{list, list, list}}, {Form: api.TAll}, {Form: api.TAll, Name: "a", Args: []api.Type{a, a}}, {Form: 9, Args: []api.Type{a}}, {Form: -1}, {Form: api.TVar, Args: []api.Type{a}},
		{Form: api.TCon, Name: "L", Args: []api.Type{a}}, {Form: api.TMeta, N: -1}, list, types.App(types.Con("L"), list), types.Con("I"), types.Con("J"), types.App(types.Con("P"), a, list), types.App(types.Con("Q"), types.Con("I")), types.App(a, a)}
	var l []api.Pred
	for _, x := range bad {
		for _, class := range []string{"E", "X", "", "Z"} {
			l = append(l, api.Pred{Class: class, Type: x}, api.Pred{Class: class, Type: types.App(types.Con("L"), x)})
		}
	}
	evidence := append(evids(1, 1, 7), api.Evid{}, api.Evid{Form: api.VInst, N: -1}, api.Evid{Form: api.VSuper, N: -1}, api.Evid{Form: 7, N: -7, Kids: make([]api.Evid, 3)})
	for _, p := range l {
		for _, given := range [][]api.Pred{nil, l, {p}} {
			if v, errno := entail.By(e, given, p); errno == api.ErrInst && (v.Form != 0 || v.N != 0 || v.Kids != nil) {
				t.Error(p, v)
			}
			for _, v := range evidence {
				entail.Check(e, given, p, v)
			}
		}
		entail.Head(e, []api.Pred{p})
		entail.Simple(e, []api.Pred{p, p})
	}
	entail.Head(e, l)
	entail.Simple(e, l)
	for _, name := range []string{"I", "J"} {
		if v, errno := entail.By(e, nil, api.Pred{Class: "X", Type: types.Con(name)}); errno != api.ErrInst {
			t.Error(name, v)
		}
	}
}

// nested is a type within so many of a constructor's.
func nested(con string, n int, x api.Type) api.Type {
	for range n {
		x = api.Type{Form: api.TApp, Args: []api.Type{types.Con(con), x}}
	}
	return x
}

// R1: types that are nested as deep as the document's bound.
func TestDeep(t *testing.T) {
	const n = 60000
	e := env(t, world)
	p := api.Pred{Class: "E", Type: nested("L", n, types.Var("a"))}
	given := preds(t, "O a")
	v, errno := entail.By(e, given, p)
	if errno != api.OK || deep(v) != n+1 || !entail.Check(e, given, p, v) || len(entail.Print(v)) != 4*n+6 {
		t.Error(errno)
	}
	if _, errno := entail.By(e, nil, p); errno != api.ErrInst {
		t.Error(errno)
	}
	if l, errno := entail.Head(e, []api.Pred{p, p}); errno != api.OK || text(l) != "E a" {
		t.Error(errno)
	}
	// Of two that are nested so deep, but are different within, one does not hold by the other.
	other := api.Pred{Class: "E", Type: nested("L", n, types.Var("b"))}
	deepHead := func(p api.Pred) api.Pred { return api.Pred{Class: p.Class, Type: types.App(types.Var("f"), p.Type)} }
	if l, errno := entail.Simple(e, []api.Pred{deepHead(p), deepHead(other), deepHead(p)}); errno != api.OK || len(l) != 2 {
		t.Error(errno, len(l))
	}
	// What is given to one constructor, one behind the other.
	wide := types.Con("L")
	for range n {
		wide = api.Type{Form: api.TApp, Args: []api.Type{wide, types.Con("Int")}}
	}
	p.Type = wide
	if _, errno := entail.By(e, []api.Pred{p}, p); errno != api.OK {
		t.Error(errno)
	}
	if _, errno := entail.By(e, nil, p); errno != api.ErrInst {
		t.Error(errno)
	}
}

// R1: what asks for twice as much at each step, but has few heads, or does not hold.
func TestDoubling(t *testing.T) {
	const n = 20000
	e := env(t, "class E a { } ; class O a { } ; class S a { } ; instance (E a, O a) => E (L a) { } ; instance (O a, E a, O a) => O (L a) { } ; instance (E a, O a, S b) => S (P a b) { } ; instance E Int { } ; instance O Int { }")
	if l, errno := entail.Head(e, []api.Pred{{Class: "O", Type: nested("L", n, types.Var("a"))}}); errno != api.OK || text(l) != "O a, E a" && text(l) != "E a, O a" {
		t.Error(text(l), errno)
	}
	if l, errno := entail.Simple(e, []api.Pred{{Class: "O", Type: nested("L", n, types.Con("Int"))}}); errno != api.OK || len(l) != 0 {
		t.Error(text(l), errno)
	}
	p := api.Pred{Class: "S", Type: types.App(types.Con("P"), nested("L", n, types.Con("Int")), types.Con("Bool"))}
	if v, errno := entail.By(e, nil, p); errno != api.ErrInst {
		t.Error(v)
	}
	// Evidence that is long itself.
	q := api.Pred{Class: "E", Type: nested("L", 12, types.Con("Int"))}
	v, errno := entail.By(e, nil, q)
	if errno != api.OK || !entail.Check(e, nil, q, v) {
		t.Error(errno)
	}
}

// ladder is classes each of which has the next one above it.
func ladder(n int) []api.Class {
	var l []api.Class
	for i := range n {
		c := api.Class{Name: "C" + strconv.Itoa(i), At: i}
		if i+1 < n {
			c.Supers = []string{"C" + strconv.Itoa(i+1)}
		}
		l = append(l, c)
	}
	return l
}

// R1: long ways up.
func TestLadder(t *testing.T) {
	const n = 60000
	e := envOf(t, api.Program{Classes: ladder(n)})
	given, p := preds(t, "C0 a"), pred(t, "C"+strconv.Itoa(n-1)+" a")
	v, errno := entail.By(e, given, p)
	if errno != api.OK || deep(v) != n-1 || !entail.Check(e, given, p, v) || len(entail.Print(v)) != 4*(n-1)+2 {
		t.Error(errno)
	}
	if entail.Check(e, given, pred(t, "C9 a"), v) {
		t.Error("another class")
	}
	if l, errno := entail.Simple(e, slices.Concat(given, []api.Pred{p})); errno != api.OK || text(l) != "C0 a" {
		t.Error(text(l), errno)
	}
}

// R1: many given ones, many heads, many instances' predicates, many classes.
func TestMany(t *testing.T) {
	const n = 50000
	e := env(t, world)
	var l []api.Pred
	for i := range n {
		x := types.Var("a" + strconv.Itoa(i))
		l = append(l, api.Pred{Class: "E", Type: x}, api.Pred{Class: "O", Type: x}, api.Pred{Class: "E", Type: types.App(types.Con("L"), x)})
	}
	heads, errno := entail.Head(e, l)
	if errno != api.OK || len(heads) != 2*n {
		t.Error(errno, len(heads))
	}
	simple, errno := entail.Simple(e, l)
	if errno != api.OK || len(simple) != n || text(simple[n-1:]) != "O a"+strconv.Itoa(n-1) {
		t.Error(errno, len(simple))
	}
	p := api.Pred{Class: "E", Type: types.App(types.Con("L"), types.Var("a"+strconv.Itoa(n-1)))}
	if v, errno := entail.By(e, simple, p); errno != api.OK || entail.Print(v) != "i1(s1(g"+strconv.Itoa(n-1)+"))" {
		t.Error(v, errno)
	}
}

// R1: an instance that asks for much of one type, where many are given of it.
func TestManyClasses(t *testing.T) {
	const n = 1000
	p := api.Program{Classes: ladder(n)}
	x := api.Inst{Class: "X", Con: "L", Vars: []string{"b"}}
	var given []api.Pred
	for i := range n {
		x.Preds = append(x.Preds, api.Pred{Class: "C" + strconv.Itoa(i), Type: types.Var("b")})
		given = append(given, api.Pred{Class: "C" + strconv.Itoa(n-1-i), Type: types.Var("a")})
	}
	p.Insts = []api.Inst{x}
	e := envOf(t, p)
	want := pred(t, "X (L a)")
	v, errno := entail.By(e, given, want)
	if errno != api.OK || !entail.Check(e, given, want, v) || v.Kids[0].N != n-1 || v.Kids[0].Form != api.VGiven || v.Kids[n-1].N != 0 {
		t.Error(errno)
	}
	if l, errno := entail.Simple(e, given); errno != api.OK || text(l) != "C0 a" {
		t.Error(text(l), errno)
	}
}
