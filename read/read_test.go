package read_test

import (
	"reflect"
	"strings"
	"testing"

	"fugue/api"
	"fugue/read"
	"fugue/types"
)

var (
	refused = func(e api.Errno, at int) api.At { return api.At{Errno: e, At: at} }
	taken   = api.At{}
	integer = types.Con("Int")
	a, b, c = types.Var("a"), types.Var("b"), types.Var("c")
)

func list(t api.Type) api.Type { return types.App(types.Con("L"), t) }

func pred(class string, t api.Type) api.Pred { return api.Pred{Class: class, Type: t} }

func name(at int, s string) api.Exp { return api.Exp{Form: api.EVar, At: at, Name: s} }
func con(at int, s string) api.Exp  { return api.Exp{Form: api.ECon, At: at, Name: s} }
func num(at, n int) api.Exp         { return api.Exp{Form: api.EInt, At: at, N: n} }
func app(at int, f, x api.Exp) api.Exp {
	return api.Exp{Form: api.EApp, At: at, Kids: []api.Exp{f, x}}
}
func lam(at int, body api.Exp, names ...api.Pat) api.Exp {
	return api.Exp{Form: api.ELam, At: at, Kids: []api.Exp{body}, Pats: names}
}
func ann(at int, e api.Exp, s api.Scheme) api.Exp {
	return api.Exp{Form: api.EAnn, At: at, Kids: []api.Exp{e}, Sig: s}
}

func pvar(at int, s string) api.Pat { return api.Pat{Form: api.PVar, At: at, Name: s} }
func pint(at, n int) api.Pat        { return api.Pat{Form: api.PInt, At: at, N: n} }
func wild(at int) api.Pat           { return api.Pat{Form: api.PWild, At: at} }
func pcon(at int, s string, kids ...api.Pat) api.Pat {
	return api.Pat{Form: api.PCon, At: at, Name: s, Kids: kids}
}

func isExp(t *testing.T, src string, want api.Exp) {
	t.Helper()
	if e, at := read.Exp(src); at != taken || !reflect.DeepEqual(e, want) {
		t.Errorf("%.80q: %v, %v, not %v", src, e, at, want)
	}
}

func isPat(t *testing.T, src string, want api.Pat) {
	t.Helper()
	if p, at := read.Pat(src); at != taken || !reflect.DeepEqual(p, want) {
		t.Errorf("%.80q: %v, %v, not %v", src, p, at, want)
	}
}

func isProgram(t *testing.T, src string, want api.Program) {
	t.Helper()
	if p, at := read.Program(src); at != taken || !reflect.DeepEqual(p, want) {
		t.Errorf("%.80q: %v, %v, not %v", src, p, at, want)
	}
}

// P6.1: names, numbers, and what is given; a bracket is an application's first token, but no expression.
func TestApplications(t *testing.T) {
	isExp(t, "x", name(0, "x"))
	isExp(t, " Nil ", con(1, "Nil"))
	isExp(t, "007", num(0, 7))
	isExp(t, "2147483647", num(0, 2147483647))
	isExp(t, "((x))", name(2, "x"))
	isExp(t, "f x 1", app(0, app(0, name(0, "f"), name(2, "x")), num(4, 1)))
	isExp(t, " (f x) y", app(1, app(2, name(2, "f"), name(4, "x")), name(7, "y")))
	isExp(t, "((f) x)", app(1, name(2, "f"), name(5, "x")))
	isExp(t, "(f)(x)(y)", app(0, app(0, name(1, "f"), name(4, "x")), name(7, "y")))
	isExp(t, "f (g x)", app(0, name(0, "f"), app(3, name(3, "g"), name(5, "x"))))
	isExp(t, "1 2", app(0, num(0, 1), num(2, 2)))
	isExp(t, "C-- a remark\nD", app(0, con(0, "C"), con(13, "D")))
}

// P6.1: lambdas and annotations, which go as far as they may.
func TestLambdasAndAnnotations(t *testing.T) {
	isExp(t, "\\x->x", lam(0, name(4, "x"), pvar(1, "x")))
	isExp(t, "\\ x y -> f x", lam(0, app(9, name(9, "f"), name(11, "x")), pvar(2, "x"), pvar(4, "y")))
	isExp(t, "\\ x -> \\ x -> 1", lam(0, lam(7, num(14, 1), pvar(9, "x")), pvar(2, "x")))
	isExp(t, "(\\ x -> x) 1", app(0, lam(1, name(8, "x"), pvar(3, "x")), num(11, 1)))
	ofInt := api.Scheme{Type: integer}
	isExp(t, "x : Int", ann(0, name(0, "x"), ofInt))
	isExp(t, "\\ x -> x : Int", lam(0, ann(7, name(7, "x"), ofInt), pvar(2, "x")))
	isExp(t, "(\\ x -> x) : Int", ann(0, lam(1, name(8, "x"), pvar(3, "x")), ofInt))
	isExp(t, "(x : Int) : Int", ann(0, ann(1, name(1, "x"), ofInt), ofInt))
	isExp(t, "(f x) y : Int", ann(0, app(0, app(1, name(1, "f"), name(3, "x")), name(6, "y")), ofInt))
	isExp(t, "f (x : (E b, O (L a)) => a -> b)", app(0, name(0, "f"), ann(3, name(3, "x"),
		api.Scheme{Vars: []string{"b", "a"}, Preds: []api.Pred{pred("E", b), pred("O", list(a))}, Type: types.Fun(b, a)})))
}

// P6.1: lets, whose sigs belong to the first bind of their name, and cases.
func TestLetsAndCases(t *testing.T) {
	let := func(at int, body api.Exp, binds ...api.Bind) api.Exp {
		return api.Exp{Form: api.ELet, At: at, Binds: binds, Kids: []api.Exp{body}}
	}
	ofInt := api.Scheme{Type: integer}
	isExp(t, "let { } in 1", let(0, num(11, 1)))
	isExp(t, "let{;;}in 1", let(0, num(10, 1)))
	isExp(t, "let { x = 1 ; ; f y z = x ; } in f", let(0, name(33, "f"),
		api.Bind{Name: "x", At: 6, Body: num(10, 1)},
		api.Bind{Name: "f", At: 16, Body: lam(18, name(24, "x"), pvar(18, "y"), pvar(20, "z"))}))
	isExp(t, "let { x = 1 ; x = 2 ; x : Int } in x", let(0, name(35, "x"),
		api.Bind{Name: "x", At: 6, Body: num(10, 1), Has: true, Sig: ofInt},
		api.Bind{Name: "x", At: 14, Body: num(18, 2)}))
	isExp(t, "let { y : Int ; x : a ; x = 1 ; y = 2 } in x", let(0, name(43, "x"),
		api.Bind{Name: "x", At: 24, Body: num(28, 1), Has: true, Sig: api.Scheme{Vars: []string{"a"}, Type: a}},
		api.Bind{Name: "y", At: 32, Body: num(36, 2), Has: true, Sig: ofInt}))
	isExp(t, "case x of { ; C y -> 1 ; ; _ -> \\ z -> z ; }", api.Exp{Form: api.ECase,
		Kids: []api.Exp{name(5, "x"), num(21, 1), lam(32, name(39, "z"), pvar(34, "z"))},
		Pats: []api.Pat{pcon(14, "C", pvar(16, "y")), wild(27)}})
	isExp(t, "(case(f x)of{1->2})", api.Exp{Form: api.ECase, At: 1,
		Kids: []api.Exp{app(6, name(6, "f"), name(8, "x")), num(16, 2)}, Pats: []api.Pat{pint(13, 1)}})
}

// P6.1: patterns; their places are those of what they are, never of a bracket.
func TestPatterns(t *testing.T) {
	isPat(t, " x", pvar(1, "x"))
	isPat(t, "_", wild(0))
	isPat(t, "007", pint(0, 7))
	isPat(t, "C", pcon(0, "C"))
	isPat(t, "((C))", pcon(2, "C"))
	isPat(t, "(C x)", pcon(1, "C", pvar(3, "x")))
	isPat(t, "C x _ 1 D", pcon(0, "C", pvar(2, "x"), wild(4), pint(6, 1), pcon(8, "D")))
	isPat(t, "C (D x) (E) ((y))", pcon(0, "C", pcon(3, "D", pvar(5, "x")), pcon(9, "E"), pvar(14, "y")))
	isPat(t, "C a a a a a a a a a", pcon(0, "C", pvar(2, "a"), pvar(4, "a"), pvar(6, "a"), pvar(8, "a"), pvar(10, "a"), pvar(12, "a"), pvar(14, "a"), pvar(16, "a"), pvar(18, "a")))
}

// P6.1: the chapter's example.
func TestChapterExample(t *testing.T) {
	isProgram(t, "f x = g (x : Int)", api.Program{Binds: []api.Bind{{Name: "f", Body: lam(2,
		app(6, name(6, "g"), ann(9, name(9, "x"), api.Scheme{Type: integer})), pvar(2, "x"))}}})
}

// P6.1: nothing, and data types.
func TestDatas(t *testing.T) {
	for _, src := range []string{"", " ", ";", ";;\n;", "-- f = 1", "; -- ;\n"} {
		isProgram(t, src, api.Program{})
	}
	isProgram(t, "data L a = N | C a (L a)", api.Program{Datas: []api.Data{{Name: "L", At: 5, Vars: []string{"a"},
		Cons: []api.Con{{Name: "N", At: 11}, {Name: "C", At: 15, Fields: []api.Type{a, list(a)}}}}}})
	isProgram(t, ";data T=T;data P b a=P(a->b)(L(b)c)Int;", api.Program{Datas: []api.Data{
		{Name: "T", At: 6, Cons: []api.Con{{Name: "T", At: 8}}},
		{Name: "P", At: 15, Vars: []string{"b", "a"}, Cons: []api.Con{{Name: "P", At: 21,
			Fields: []api.Type{types.Fun(b, a), types.App(types.Con("L"), b, c), integer}}}}}})
}

// P6.1: classes: a method's scheme has the class's variable, and its predicate, first, whatever it says itself.
func TestClasses(t *testing.T) {
	isProgram(t, "class K k { }", api.Program{Classes: []api.Class{{Name: "K", At: 6, Var: "k"}}})
	isProgram(t, "class(E(a),E a)=>O a{;x:b->a;;y:(P b,O a)=>c a;z:Int}", api.Program{Classes: []api.Class{{
		Name: "O", At: 17, Var: "a", Supers: []string{"E", "E"}, Methods: []api.Sig{
			{Name: "x", At: 22, Type: api.Scheme{Vars: []string{"a", "b"}, Preds: []api.Pred{pred("O", a)}, Type: types.Fun(a, b)}},
			{Name: "y", At: 30, Type: api.Scheme{Vars: []string{"a", "b", "c"}, Preds: []api.Pred{pred("O", a), pred("P", b), pred("O", a)}, Type: types.App(c, a)}},
			{Name: "z", At: 47, Type: api.Scheme{Vars: []string{"a"}, Preds: []api.Pred{pred("O", a)}, Type: integer}},
		}}}})
	isProgram(t, "class E b => O b { x : b ; x : a }", api.Program{Classes: []api.Class{{
		Name: "O", At: 13, Var: "b", Supers: []string{"E"}, Methods: []api.Sig{
			{Name: "x", At: 19, Type: api.Scheme{Vars: []string{"b"}, Preds: []api.Pred{pred("O", b)}, Type: b}},
			{Name: "x", At: 27, Type: api.Scheme{Vars: []string{"b", "a"}, Preds: []api.Pred{pred("O", b)}, Type: a}},
		}}}})
}

// P6.1: instances.
func TestInstances(t *testing.T) {
	isProgram(t, "instance E Int { }", api.Program{Insts: []api.Inst{{Class: "E", At: 9, Con: "Int"}}})
	isProgram(t, "instance E (Int) { }", api.Program{Insts: []api.Inst{{Class: "E", At: 9, Con: "Int"}}})
	isProgram(t, "instance (E (a), O c, E a) => E (P a b) { ; x = 1 ; x y = y }", api.Program{Insts: []api.Inst{{Class: "E", At: 30, Con: "P",
		Vars: []string{"a", "b"}, Preds: []api.Pred{pred("E", a), pred("O", c), pred("E", a)}, Binds: []api.Bind{
			{Name: "x", At: 44, Body: num(48, 1)}, {Name: "x", At: 52, Body: lam(54, name(58, "y"), pvar(54, "y"))}}}}})
}

// P6.1: declarations of all sorts among one another, each in the row of its own; sigs behind and ahead of their binds.
func TestPrograms(t *testing.T) {
	src := "g = f ; f : Int ; data B = B ; class K k { } ; f = 1 ; instance K B { } ; g : B ; f = 2 ; class J k { } ; data A = A ; instance J A { }"
	p, at := read.Program(src)
	if at != taken || len(p.Datas) != 2 || len(p.Classes) != 2 || len(p.Insts) != 2 || len(p.Binds) != 3 {
		t.Fatal(p, at)
	}
	if p.Datas[0].Name != "B" || p.Datas[1].Name != "A" || p.Classes[0].Name != "K" || p.Classes[1].Name != "J" || p.Insts[0].Con != "B" || p.Insts[1].Con != "A" {
		t.Error("another row:", p)
	}
	for i, x := range []struct {
		name string
		at   int
		has  bool
		sig  string
	}{{"g", 0, true, "B"}, {"f", strings.Index(src, "f = 1"), true, "Int"}, {"f", strings.Index(src, "f = 2"), false, ""}} {
		if d := p.Binds[i]; d.Name != x.name || d.At != x.at || d.Has != x.has || d.Sig.Type.Name != x.sig {
			t.Errorf("%d: %v", i, d)
		}
	}
}
