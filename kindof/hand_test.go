package kindof_test

import (
	"reflect"
	"strconv"
	"strings"
	"testing"

	"fugue/api"
	"fugue/kindof"
	"fugue/kinds"
	"fugue/read"
	"fugue/types"
)

const much = "data T f a = A (f a) | B a ; data K = K ; class E a { e : a ; d : F f => f a } ; class F f { f : (a -> b) -> f a -> f b } ; class (E a, E a) => D a { } ; " +
	"instance E a => E (T f a) { e = let { x : g a ; x = x } in (x : a) ; d = d } ; instance F (T f) { f = f } ; " +
	"x : (F m, E a) => m a ; x = \\ y -> case (y : g Int) of { A z -> let { v : a -> b ; v = (1 : c) ; w = 1 } in v ; B _ -> add (1 : d) } ; y = 1"

// room is a list with the same things, behind which there is room in which something stands.
func room[T any](l []T, behind T) []T {
	out := append(make([]T, 0, len(l)+2), l...)
	return append(append(out, behind), behind)[:len(l)]
}

// roomy is an expression whose lists have room behind them, at every depth.
func roomy(e api.Exp) api.Exp {
	e.Kids, e.Pats, e.Binds = room(e.Kids, api.Exp{N: 77}), room(e.Pats, api.Pat{N: 77}), room(e.Binds, api.Bind{Group: 77})
	e.Sig = roomyScheme(e.Sig)
	for i := range e.Kids {
		e.Kids[i] = roomy(e.Kids[i])
	}
	for i := range e.Binds {
		e.Binds[i] = roomyBind(e.Binds[i])
	}
	return e
}

func roomyBind(b api.Bind) api.Bind {
	b.Sig, b.Body = roomyScheme(b.Sig), roomy(b.Body)
	return b
}

func roomyScheme(s api.Scheme) api.Scheme {
	if s.Type.Form == 0 {
		return s
	}
	s.Vars, s.Kinds, s.Preds = room(s.Vars, "room"), room(s.Kinds, of(of())), room(s.Preds, api.Pred{Class: "room"})
	s.Type.Args = room(s.Type.Args, types.Var("room"))
	return s
}

// roomyProgram is a program whose lists have room behind them.
func roomyProgram(p api.Program) api.Program {
	p.Datas, p.Classes, p.Insts, p.Binds = room(p.Datas, api.Data{Name: "room"}), room(p.Classes, api.Class{Name: "room"}), room(p.Insts, api.Inst{Con: "room"}), room(p.Binds, api.Bind{Name: "room"})
	for i := range p.Datas {
		d := &p.Datas[i]
		d.Vars, d.Kinds, d.Cons = room(d.Vars, "room"), room(d.Kinds, of(of())), room(d.Cons, api.Con{Name: "room"})
	}
	for i := range p.Classes {
		c := &p.Classes[i]
		c.Kind.From = room(c.Kind.From, of(of()))
		c.Supers, c.Methods = room(c.Supers, "room"), room(c.Methods, api.Sig{Name: "room"})
		for j := range c.Methods {
			c.Methods[j].Type = roomyScheme(c.Methods[j].Type)
		}
	}
	for i := range p.Insts {
		x := &p.Insts[i]
		x.Vars, x.Preds, x.Binds = room(x.Vars, "room"), room(x.Preds, api.Pred{Class: "room"}), room(x.Binds, api.Bind{Name: "room"})
		for j := range x.Binds {
			x.Binds[j] = roomyBind(x.Binds[j])
		}
	}
	for i := range p.Binds {
		p.Binds[i] = roomyBind(p.Binds[i])
	}
	return p
}

// whole is a value with all that stands in it, the room behind lists, too, in memory of its own.
func whole(v reflect.Value) any {
	switch v.Kind() {
	case reflect.Slice:
		l := []any{v.Len()}
		for i := range v.Cap() {
			l = append(l, whole(v.Slice(0, v.Cap()).Index(i)))
		}
		return l
	case reflect.Struct:
		var l []any
		for i := range v.NumField() {
			l = append(l, whole(v.Field(i)))
		}
		return l
	}
	return v.Interface()
}

func snap(x any) any { return whole(reflect.ValueOf(x)) }

// spoilKinds overwrites kinds' memory, at every depth, the room behind them, too.
func spoilKinds(l []api.Kind) {
	for _, k := range l {
		spoilKinds(k.From)
	}
	for i := range l[:cap(l)] {
		l[:cap(l)][i] = of(of(), of(), of())
	}
}

// R4, R5: what is handed in is left as it was, room and all, be it refused or not; each call tells the same; and what is put
// into an answer is put into nothing that was handed in.
func TestHandedIn(t *testing.T) {
	for _, src := range []string{much, "data T a = A a ; x : T T ; x = (1 : a) ; y : b ; y = 1", "class E a { e : a ; f : b a ; g : a Int }", "class E a { } ; instance E (Int a) { }"} {
		for _, q := range []api.Program{program(t, src), kinded(t, much)} {
			p := roomyProgram(q)
			was := snap(p)
			one, at := kindof.Kinds(p)
			two, at2 := kindof.Kinds(p)
			if at != at2 || !alike(reflect.ValueOf(one), reflect.ValueOf(two)) {
				t.Error(src, "another answer:", at, at2)
			}
			kindof.Of(p, room([]string{"a"}, "room"), room([]api.Kind{of(of())}, of()), types.App(types.Var("a"), types.Con("Int")))
			kindof.Scheme(p, roomyScheme(scheme(t, "F f => f a -> T f a")))
			if !reflect.DeepEqual(snap(p), was) {
				t.Error(src, "changed")
			}
			spoilProgram(&one)
			if !reflect.DeepEqual(snap(p), was) || !alike(reflect.ValueOf(two), reflect.ValueOf(first(kindof.Kinds(p)))) {
				t.Error(src, "kinds that are told share memory with what was handed in, or with another answer")
			}
		}
	}
}

func first[T, U any](x T, _ U) T { return x }

// spoilProgram overwrites the kinds of a program, and its lists that hold them, the room behind them, too.
func spoilProgram(p *api.Program) {
	eachSig(p, func(at int, s *api.Scheme) {
		spoilKinds(s.Kinds)
		s.Kinds = nil
	})
	for i := range p.Classes {
		spoilKinds(p.Classes[i].Kind.From)
		for j := range p.Classes[i].Methods {
			spoilKinds(p.Classes[i].Methods[j].Type.Kinds)
			p.Classes[i].Methods[j] = api.Sig{}
		}
	}
	for i := range p.Datas {
		spoilKinds(p.Datas[i].Kinds)
		p.Datas[i].Kinds = nil
	}
	for i := range p.Datas[:cap(p.Datas)] {
		p.Datas[:cap(p.Datas)][i] = api.Data{}
	}
	for i := range p.Binds[:cap(p.Binds)] {
		p.Binds[:cap(p.Binds)][i] = api.Bind{}
	}
}

// R4: no two lists of kinds of one answer share memory.
func TestKindsInMemoryOfTheirOwn(t *testing.T) {
	p := kinded(t, "data T f g = A (f H) (g H) ; data H f = H (f Int) ; class E f { e : f H -> g (f H) ; d : f H } ; class E f => D f { } ; x : f H -> g H ; x = (1 : f H)")
	want := strings.Join(told(p), ", ")
	var lists [][]api.Kind
	lists = append(lists, p.Datas[0].Kinds, p.Datas[1].Kinds)
	for i := range p.Classes {
		lists = append(lists, p.Classes[i].Kind.From)
		for _, m := range p.Classes[i].Methods {
			lists = append(lists, m.Type.Kinds)
		}
	}
	eachSig(&p, func(at int, s *api.Scheme) { lists = append(lists, s.Kinds) })
	for i, l := range lists {
		was := prints(l)
		for j, k := range l {
			spoilKinds(k.From)
			for n := range l {
				if n != j && kinds.Print(l[n]) != was[n] {
					t.Fatal(want, "the kinds of one list share memory:", i, j, n)
				}
			}
			l[j], was[j] = of(), "*"
		}
	}
	q := kinded(t, "data T f g = A (f H) (g H) ; data H f = H (f Int) ; class E f { e : f H -> g (f H) ; d : f H } ; class E f => D f { } ; x : f H -> g H ; x = (1 : f H)")
	all := []api.Kind{}
	for _, d := range q.Datas {
		all = append(all, d.Kinds...)
	}
	for _, c := range q.Classes {
		all = append(all, c.Kind)
		for _, m := range c.Methods {
			all = append(all, m.Type.Kinds...)
		}
	}
	eachSig(&q, func(at int, s *api.Scheme) { all = append(all, s.Kinds...) })
	was := prints(all)
	for i := range all {
		spoilKinds(all[i].From)
		for j := i + 1; j < len(all); j++ {
			if kinds.Print(all[j]) != was[j] {
				t.Fatal(was, "kinds share memory:", i, j)
			}
		}
	}
}

// R4: what Of and Scheme answer is new memory, at every depth.
func TestAnswered(t *testing.T) {
	p := kinded(t, "data T f g = A (f H) (g H) ; data H f = H (f Int)")
	l := []api.Kind{of(of(of()), of(of()))}
	was, wasKinds := snap(p), snap(l)
	for _, x := range []api.Type{types.Con("T"), types.App(types.Con("T"), types.Var("y")), types.Var("x"), types.App(types.Var("x"), types.Con("H"))} {
		k, _ := kindof.Of(p, []string{"x"}, l, x)
		spoilKinds(k.From)
		if !reflect.DeepEqual(snap(p), was) || !reflect.DeepEqual(snap(l), wasKinds) {
			t.Fatal(types.Print(x), "shares memory")
		}
	}
	q := kinded(t, much)
	s := scheme(t, "(F (m n), E (f a)) => f a -> T (f a) a")
	s.Vars = append(s.Vars, "z")
	s.Type = types.Fun(types.Var("a"), types.App(types.Con("T"), types.Var("f"), types.Var("a")))
	wasScheme, wasProgram := snap(s), snap(q)
	got, e := kindof.Scheme(q, s)
	if e != api.OK {
		t.Fatal(e)
	}
	spoilKinds(got.Kinds)
	spoilType(got.Type)
	for i := range got.Preds {
		spoilType(got.Preds[i].Type)
		got.Preds[i] = api.Pred{}
	}
	for i := range got.Vars[:cap(got.Vars)] {
		got.Vars[:cap(got.Vars)][i] = "spoilt"
	}
	if !reflect.DeepEqual(snap(s), wasScheme) || !reflect.DeepEqual(snap(q), wasProgram) {
		t.Error("what Scheme tells shares memory")
	}
}

func spoilType(t api.Type) {
	for _, a := range t.Args {
		spoilType(a)
	}
	for i := range t.Args[:cap(t.Args)] {
		t.Args[:cap(t.Args)][i] = types.Con("spoilt")
	}
}

// LANGUAGE 4: whatever is handed in, nothing panics.
func TestWhateverIsHandedIn(t *testing.T) {
	var some []api.Type
	for form := -1; form <= 6; form++ {
		for n := range 4 {
			x := api.Type{Form: form, N: n, Name: "a"}
			for range n {
				x.Args = append(x.Args, types.Var("a"))
			}
			some = append(some, x, types.App(types.Var("f"), x), types.App(x, types.Con("T")))
		}
	}
	programs := []api.Program{
		{}, {Datas: []api.Data{{}, {}}, Classes: []api.Class{{}, {}}, Insts: []api.Inst{{}}, Binds: []api.Bind{{}, {Has: true}}},
		{Datas: []api.Data{{Name: "T", Vars: []string{"a", "b"}}, {Name: "T", Kinds: make([]api.Kind, 3)}, {Name: "T", Vars: []string{"a"}}}},
		{Datas: []api.Data{{Name: "Int", Vars: []string{"a", "a"}}, {Name: "->"}}, Insts: []api.Inst{{Class: "C", Con: "->", Vars: []string{"a", "b", "c"}}, {Con: "T", Vars: []string{"a"}}}},
		{Classes: []api.Class{{Name: "C", Supers: []string{"D"}}, {Name: "C", Supers: []string{"C", "C"}, Methods: []api.Sig{{}}}}, Insts: []api.Inst{{Class: "C", Con: "Int", Preds: []api.Pred{{}}}}},
		{Classes: []api.Class{{Name: "C"}}, Insts: []api.Inst{{Class: "C", Con: "Int", Preds: []api.Pred{{Class: "C", Type: types.Con("Int")}, {Class: "No"}}}, {Class: "No", Con: "Int"}, {Class: "C", Con: "No"}}},
	}
	for _, x := range some {
		programs = append(programs, api.Program{
			Datas:   []api.Data{{Name: "T", Vars: []string{"a"}, Cons: []api.Con{{Fields: []api.Type{x}}}}},
			Classes: []api.Class{{Name: "C", Var: "a", Methods: []api.Sig{{Type: api.Scheme{Type: x, Preds: []api.Pred{{Class: "C", Type: x}}}}}}},
		})
	}
	for _, p := range programs {
		q, at := kindof.Kinds(p)
		if at != (api.At{}) && !reflect.DeepEqual(q, api.Program{}) || at == (api.At{}) && len(q.Binds) != len(p.Binds) {
			t.Error(p, q, at)
		}
		for _, x := range some {
			kindof.Of(p, nil, nil, x)
			kindof.Of(p, []string{"a", "f"}, []api.Kind{of(of(of()))}, x)
			kindof.Of(p, []string{"a"}, []api.Kind{of(of()), of()}, x)
			kindof.Of(p, []string{"a", "a"}, []api.Kind{of(of()), of()}, x)
			kindof.Scheme(p, api.Scheme{Vars: []string{"a", "f", "a"}, Preds: []api.Pred{{Class: "C", Type: x}}, Type: x})
		}
	}
	for form := -1; form <= 12; form++ {
		e := api.Exp{Form: form, Binds: []api.Bind{{}, {Has: true}}}
		e = api.Exp{Form: form, Kids: []api.Exp{e, e}, Binds: []api.Bind{{Body: e}}}
		if _, at := kindof.Kinds(api.Program{Binds: []api.Bind{{Body: e}}}); at != (api.At{Errno: api.ErrKind}) {
			t.Error(form, at)
		}
	}
}

// R1: kinds nested as deep as declarations may nest them, deeper than 40.
func TestDeepKinds(t *testing.T) {
	src := "data T1 a = C1 a ; "
	for i := 2; i < 56; i++ {
		n := strconv.Itoa(i)
		src += "data T" + n + " f = C" + n + " (f T" + strconv.Itoa(i-1) + ") ; "
	}
	src += "class E f { e : f T55 } ; x : E f => f g ; x = (1 : h T55)"
	p := kinded(t, src)
	deep := of() // that of the variable of each
	for i, d := range p.Datas {
		if !equal(d.Kinds[0], deep) {
			t.Fatal(i, kinds.Print(d.Kinds[0]))
		}
		deep = of(of(deep))
	}
	if got := p.Classes[0].Kind; !equal(got, deep) {
		t.Error(kinds.Print(got))
	}
	if k, e := kindof.Of(p, []string{"f"}, []api.Kind{deep}, types.App(types.Var("f"), types.Con("T55"))); e != api.OK || len(k.From) != 0 {
		t.Error(kinds.Print(k), e)
	}
	if k, e := kindof.Of(p, []string{"f"}, []api.Kind{deep}, types.App(types.Var("f"), types.Con("T54"))); e != api.ErrKind {
		t.Error(kinds.Print(k), e)
	}
	if s, e := kindof.Scheme(p, scheme(t, "E f => f g")); e != api.OK || !equal(s.Kinds[0], deep) || !equal(s.Kinds[1], deep.From[0]) {
		t.Error(s, e)
	}
}

// R1: kinds that, written out, would be longer than anything: they are not, where something is refused.
func TestKindsThatDouble(t *testing.T) {
	datas := "data T0 = C0 ; "
	for i := 1; i < 56; i++ {
		n, below := strconv.Itoa(i), strconv.Itoa(i-1)
		datas += "data T" + n + " a b c = C" + n + " (a T" + below + ") (b T" + below + ") (c T" + below + ") ; "
	}
	var sig strings.Builder
	sig.WriteString("x : ")
	for i := range 200 {
		n, next := strconv.Itoa(i), strconv.Itoa(i+1)
		sig.WriteString("v" + n + " v" + next + " v" + next + " -> ")
	}
	class := "class E f { e : f T55 } ; "
	for _, marked := range []string{
		datas + "x : T55 ; #x = 1",
		datas + class + "x : E f => f T54 ; #x = 1",
		datas + class + "instance #E T54 { }",
		datas + "x : f T55 ; x = 1 ; y : f T55 -> f T54 ; #y = 1",
		datas + "class #E f { e : f T55 ; d : f T54 }",
		datas + "data #T f g = T (f T55) (g T55) (f g)",
		sig.String() + "Int ; x = 1 ; y : Int Int ; #y = 1",
		sig.String() + "v200 v200 ; #x = 1",
	} {
		ahead, behind, _ := strings.Cut(marked, "#")
		p, at := read.Program(ahead + behind)
		if at != (api.At{}) {
			t.Fatal(marked, at)
		}
		if _, at := kindof.Kinds(p); at != (api.At{Errno: api.ErrKind, At: len(ahead)}) {
			t.Error(marked, at)
		}
	}
}

// R1: types, kinds and bodies with as many parts within one another as the document's bound allows.
func TestLongAndDeep(t *testing.T) {
	const n = 1 << 16
	deep, wide := types.Con("Int"), types.Var("f")
	nested, row := of(), of()
	body := api.Exp{Form: api.EInt}
	for i := range n {
		deep = api.Type{Form: api.TApp, Args: []api.Type{types.Var("g"), deep}}
		wide = api.Type{Form: api.TApp, Args: []api.Type{wide, types.Con("Int")}}
		nested, row.From = of(nested), append(row.From, of())
		switch i % 3 {
		case 0:
			body = api.Exp{Form: api.EAnn, Sig: api.Scheme{Vars: []string{"a"}, Type: types.Var("a")}, Kids: []api.Exp{body}}
		case 1:
			body = api.Exp{Form: api.ELet, Binds: []api.Bind{{Name: "x", Has: true, Sig: api.Scheme{Type: types.Con("Int")}, Body: body}}, Kids: []api.Exp{{Form: api.EInt}}}
		case 2:
			body = api.Exp{Form: api.EApp, Kids: []api.Exp{body, {Form: api.EInt}}}
		}
	}
	names, l := []string{"g", "f", "h"}, []api.Kind{of(of()), row, nested}
	for _, x := range []api.Type{deep, wide, types.Fun(wide, deep, wide)} {
		if k, e := kindof.Of(api.Program{}, names, l, x); e != api.OK || len(k.From) != 0 {
			t.Error(len(k.From), e)
		}
		s := api.Scheme{Vars: names, Type: x}
		if got, e := kindof.Scheme(api.Program{}, s); e != api.OK || len(got.Kinds) != 3 || len(got.Kinds[1].From) != len(row.From) && len(got.Kinds[1].From) != 0 {
			t.Error(e)
		}
	}
	if k, e := kindof.Of(api.Program{}, names, l, types.Var("h")); e != api.OK || !equal(k, nested) {
		t.Error(e)
	}
	if k, e := kindof.Of(api.Program{}, names, l, wide.Args[0]); e != api.OK || !equal(k, of(of())) {
		t.Error(e)
	}
	p, at := kindof.Kinds(api.Program{Binds: []api.Bind{{Name: "x", Body: body}}})
	if at != (api.At{}) {
		t.Fatal(at)
	}
	many := 0
	eachSig(&p, func(at int, s *api.Scheme) { many += len(s.Kinds) })
	if many != (n+2)/3 {
		t.Error(many)
	}
}

// R1: sources as long as may be, in which one variable is given much, again and again.
func TestLongSources(t *testing.T) {
	row := "f" + strings.Repeat(" a", 900)
	for _, src := range []string{
		"x : " + row + " -> " + row + " ; x = 1",
		"data T f a = C (" + row + ") (" + row + ")",
		"class E f { e : " + row + " -> " + row + " }",
	} {
		p := kinded(t, src)
		if !strings.Contains(strings.Join(told(p), ", "), strings.Repeat("* -> ", 900)+"*") {
			t.Error(src)
		}
	}
	src := "x : "
	for i := range 300 {
		src += "v" + strconv.Itoa(i) + " v" + strconv.Itoa(i+1) + " -> "
	}
	p := kinded(t, src+"Int ; x = 1")
	k := p.Binds[0].Sig.Kinds[0]
	for range 300 {
		if len(k.From) != 1 {
			t.Fatal(k)
		}
		k = k.From[0]
	}
}
