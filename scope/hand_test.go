package scope_test

import (
	"reflect"
	"slices"
	"strings"
	"testing"

	"fugue/api"
	"fugue/read"
	"fugue/scope"
	"fugue/types"
)

const much = "data L a = N | C a (L a) ; class E a { same : a -> b -> Bool ; m : a } ; class E a => O a { less : E b => a -> b } ; " +
	"instance E a => E (L a) { same x y = eq x y ; m = let { m = m } in m } ; " +
	"f : E a => a ; f x y = case g (h y) of { C (C _ b) 3 -> f (x : a) ; N -> b ; _ -> \\ y z -> add y } ; g = h ; h = g ; b = 1"

// room is a list with the same things, behind which there is room.
func room[T any](l []T) []T { return append(make([]T, 0, len(l)+4), l...) }

// roomy is an expression whose lists have room behind them, at every depth.
func roomy(e api.Exp) api.Exp {
	e.Kids, e.Pats, e.Binds = room(e.Kids), room(e.Pats), room(e.Binds)
	for i := range e.Kids {
		e.Kids[i] = roomy(e.Kids[i])
	}
	for i := range e.Pats {
		e.Pats[i].Kids = room(e.Pats[i].Kids)
	}
	for i := range e.Binds {
		e.Binds[i].Body = roomy(e.Binds[i].Body)
	}
	return e
}

// spared tells whether nothing stands in an expression's room.
func spared(e api.Exp) bool {
	for _, x := range e.Kids[len(e.Kids):cap(e.Kids)] {
		if !reflect.ValueOf(x).IsZero() {
			return false
		}
	}
	for _, x := range e.Pats[len(e.Pats):cap(e.Pats)] {
		if !reflect.ValueOf(x).IsZero() {
			return false
		}
	}
	for _, b := range e.Binds[:cap(e.Binds)][len(e.Binds):] {
		if !reflect.ValueOf(b).IsZero() {
			return false
		}
	}
	for _, b := range e.Binds {
		if !spared(b.Body) {
			return false
		}
	}
	return !slices.ContainsFunc(e.Kids, func(kid api.Exp) bool { return !spared(kid) })
}

// R4, R5: what is handed in is left as it was, spare room and all, and each call tells the same.
func TestHandedIn(t *testing.T) {
	p, q := program(t, much), program(t, much)
	p.Datas, p.Classes, p.Insts, p.Binds = room(p.Datas), room(p.Classes), room(p.Insts), room(p.Binds)
	for i := range p.Binds {
		p.Binds[i].Body = roomy(p.Binds[i].Body)
	}
	p.Datas[0].Vars, p.Datas[0].Cons, p.Classes[0].Methods, p.Insts[0].Preds = room(p.Datas[0].Vars), room(p.Datas[0].Cons), room(p.Classes[0].Methods), room(p.Insts[0].Preds)
	names, rows := scope.Free(p.Binds[0].Body), scope.Groups(p.Binds)
	for range 3 {
		if at := scope.Check(p); at != (api.At{}) {
			t.Error(at)
		}
		if !slices.Equal(scope.Free(p.Binds[0].Body), names) || !reflect.DeepEqual(scope.Groups(p.Binds), rows) {
			t.Error("another answer")
		}
	}
	if read.Print(p) != read.Print(q) || len(p.Binds[:cap(p.Binds)][len(q.Binds)].Name) > 0 || len(p.Insts[0].Preds[:cap(p.Insts[0].Preds)][1].Class) > 0 {
		t.Error("changed")
	}
	for _, b := range p.Binds {
		if !spared(b.Body) {
			t.Error("spare room changed:", b.Name)
		}
	}
}

// R4: what is answered is new memory.
func TestAnswered(t *testing.T) {
	e := exp(t, "f x y")
	for range 2 {
		l := scope.Free(e)
		prims := scope.Prims()
		rows := scope.Groups(program(t, "f = g ; g = f ; h = f").Binds)
		if !slices.Equal(l, []string{"f", "x", "y"}) || prims[0] != "add" || !slices.Equal(rows[0], []int{0, 1}) || !slices.Equal(rows[1], []int{2}) {
			t.Fatal(l, prims, rows)
		}
		l[0], prims[0] = "z", "z"
		for i := range rows[0][:cap(rows[0])] {
			rows[0][:cap(rows[0])][i] = 9
		}
		if rows[1][0] != 2 {
			t.Error("lists share memory:", rows)
		}
	}
}

// What is told of types, and a signature that is not said to be there, changes nothing.
func TestTyped(t *testing.T) {
	p := program(t, "data T = A Int ; f x = case x of { A y -> g (y : a) } ; g x = let { h = x } in h")
	none := api.Scheme{Vars: []string{"q"}, Preds: []api.Pred{{Class: "Q", Type: types.Con("Q")}}, Type: types.Con("Q")}
	for i := range p.Binds {
		p.Binds[i].Scheme, p.Binds[i].Sig, p.Binds[i].Group = none, none, 7
	}
	choice := &p.Binds[0].Body.Kids[0]
	choice.Types, choice.Pats[0].Type, choice.Pats[0].Types = []api.Type{none.Type}, none.Type, []api.Type{none.Type}
	let := &p.Binds[1].Body.Kids[0]
	let.Binds[0].Sig, let.Binds[0].Scheme = none, none
	if at := scope.Check(p); at != (api.At{}) {
		t.Error(at)
	}
	if got := scope.Groups(p.Binds); !slices.EqualFunc(got, [][]int{{1}, {0}}, slices.Equal[[]int]) {
		t.Error(got)
	}
}

// LANGUAGE 4: whatever is handed in, nothing panics.
func TestWhateverIsHandedIn(t *testing.T) {
	for form := -1; form <= 12; form++ {
		e := api.Exp{Form: form, Name: "x", Pats: []api.Pat{{}, {Form: form}}, Binds: []api.Bind{{}, {Has: true}}}
		for range 3 {
			scope.Free(e)
			scope.Groups([]api.Bind{{}, {Name: "x", Body: e}, {Body: e}})
			scope.Check(api.Program{Binds: []api.Bind{{Name: "f", Body: e}}})
			e = api.Exp{Form: form, Kids: []api.Exp{e, e}}
		}
		scope.Vars(api.Pat{Form: form, Kids: []api.Pat{{}, {Form: form, Kids: []api.Pat{{}}}}})
	}
	scope.Check(api.Program{Datas: []api.Data{{}, {Cons: []api.Con{{}}}}, Classes: []api.Class{{}, {Methods: []api.Sig{{}}}}, Insts: []api.Inst{{}, {Preds: []api.Pred{{}}}}, Binds: []api.Bind{{}}})
	if got := scope.Free(api.Exp{}); len(got) != 0 {
		t.Error(got)
	}
}

// R1: sources as long, and as deep, as may be; and what is within as many parts as the document's bound allows.
func TestLongAndDeep(t *testing.T) {
	row := exp(t, "f"+strings.Repeat(" x", 1999))
	if got := scope.Free(row); !slices.Equal(got, []string{"f", "x"}) {
		t.Error(got)
	}
	deep := api.Exp{Form: api.EVar, Name: "x0", At: 5}
	pat := api.Pat{Form: api.PVar, Name: "y"}
	for i := range 1 << 16 {
		switch i % 3 {
		case 0:
			deep = api.Exp{Form: api.ELam, Pats: []api.Pat{{Form: api.PVar, Name: "y"}}, Kids: []api.Exp{deep}}
		case 1:
			deep = api.Exp{Form: api.ELet, Binds: []api.Bind{{Name: "z", Body: deep}}, Kids: []api.Exp{{Form: api.EVar, Name: "z"}}}
		case 2:
			deep = api.Exp{Form: api.EApp, Kids: []api.Exp{deep, {Form: api.EVar, Name: "z"}}}
		}
		pat = api.Pat{Form: api.PCon, Name: "C", Kids: []api.Pat{pat}}
	}
	if got := scope.Free(deep); !slices.Equal(got, []string{"x0", "z"}) {
		t.Error(got)
	}
	if got := scope.Vars(pat); !slices.Equal(got, []string{"y"}) {
		t.Error(got)
	}
	l := []api.Bind{{Name: "z", Body: deep, At: 1}, {Name: "x0", Body: deep, At: 2}}
	if got := scope.Check(api.Program{Binds: l}); got != (api.At{}) {
		t.Error(got)
	}
	if got := scope.Check(api.Program{Binds: l[:1]}); got != (api.At{Errno: api.ErrNone, At: 5}) {
		t.Error(got)
	}
	if got := scope.Groups(l); !slices.EqualFunc(got, [][]int{{0, 1}}, slices.Equal[[]int]) {
		t.Error(got)
	}
}
