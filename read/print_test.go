package read_test

import (
	"strings"
	"testing"

	"fugue/api"
	"fugue/read"
	"fugue/types"
)

// printed is a source, and what is printed of what is read there.
type printed struct{ src, want string }

func printsPrograms(t *testing.T, l []printed) {
	t.Helper()
	for _, x := range l {
		p, at := read.Program(x.src)
		if s := read.Print(p); at != taken || s != x.want {
			t.Errorf("%q: %q, %v, not %q", x.src, s, at, x.want)
		}
		q, at := read.Program(x.want)
		if s := read.Print(q); at != taken || s != x.want || !read.Same(p, q) {
			t.Errorf("%q: %q, %v", x.want, s, at)
		}
	}
}

func printsExps(t *testing.T, l []printed) {
	t.Helper()
	for _, x := range l {
		e, at := read.Exp(x.src)
		if s := read.PrintExp(e); at != taken || s != x.want {
			t.Errorf("%q: %q, %v, not %q", x.src, s, at, x.want)
		}
		e, at = read.Exp(x.want)
		if s := read.PrintExp(e); at != taken || s != x.want {
			t.Errorf("%q: %q, %v", x.want, s, at)
		}
	}
}

// P6.2: declarations in their rows, a bind's sig ahead of it; of what a declaration is said by, one form is printed.
func TestPrintPrograms(t *testing.T) {
	printsPrograms(t, []printed{
		{"", ""}, {" ;; -- f = 1", ""}, {";f=1;", "f = 1"}, {"f=1;;g=f;", "f = 1 ;\ng = f"},
		{"f x y=x", "f = \\ x y -> x"}, {"f=\\x y->x", "f = \\ x y -> x"}, {"f x=\\y->x", "f = \\ x -> \\ y -> x"}, {"f x=(\\y->x)", "f = \\ x -> \\ y -> x"},
		{"g=007;f=2;f:a;g:b->a", "g : b -> a ;\ng = 7 ;\nf : a ;\nf = 2"}, {"f=1;f=2;f:a", "f : a ;\nf = 1 ;\nf = 2"},
		{"instance K B{};f=1;class K k{};data B=B", "data B = B ;\nclass K k { } ;\ninstance K B { } ;\nf = 1"},
		{"f=1;data B=B;data A=A;class L l{};class K k{};instance L A{};instance K A{};a=1", "data B = B ;\ndata A = A ;\nclass L l { } ;\nclass K k { } ;\ninstance L A { } ;\ninstance K A { } ;\nf = 1 ;\na = 1"},
		{"data L a b=N|C a(L(a)b)(a->b)((Int))(a b)", "data L a b = N | C a (L a b) (a -> b) Int (a b)"}, {"data F=F((a->b)->L(a->b)c->d)", "data F = F ((a -> b) -> L (a -> b) c -> d)"},
		{"class(E a)=>K a{}", "class E a => K a { }"}, {"class(E(a),E a,F a)=>K a{m:a;n:(E b)=>a b}", "class (E a, E a, F a) => K a { m : a ; n : E b => a b }"}, {"class K a{;m:K a=>a;}", "class K a { m : K a => a }"},
		{"class K a{m:(E(L a),F(a->b),G((c)))=>a}", "class K a { m : (E (L a), F (a -> b), G c) => a }"}, {"class K a{m:E(a b)=>a}", "class K a { m : E (a b) => a }"},
		{"instance E(Int){x=1;y z=2}", "instance E Int { x = 1 ; y = \\ z -> 2 }"}, {"instance(E a)=>E(L a b){}", "instance E a => E (L a b) { }"}, {"instance(E a,F b)=>E(L a){;}", "instance (E a, F b) => E (L a) { }"},
		{"f:(E a,O(L b))=>a->L b;f=1", "f : (E a, O (L b)) => a -> L b ;\nf = 1"}, {"f:(E a)=>(a->b)->((a));f=1", "f : E a => (a -> b) -> a ;\nf = 1"},
	})
}

// P6.2: the chapter's brackets, and nowhere else.
func TestPrintExps(t *testing.T) {
	printsExps(t, []printed{
		{"((x))", "x"}, {"((C))", "C"}, {"((00))", "0"}, {"2147483647", "2147483647"}, {"(f)(x)((1))", "f x 1"}, {"(f x)y", "f x y"}, {"f(x y)", "f (x y)"}, {"f(g(h x)y)", "f (g (h x) y)"}, {"((f x)(g y))(1 2)", "f x (g y) (1 2)"},
		{"(\\x->x)", "\\ x -> x"}, {"\\x->(\\y->(x))", "\\ x -> \\ y -> x"}, {"\\x->(x:a)", "\\ x -> x : a"}, {"(\\x->x):a", "(\\ x -> x) : a"}, {"(\\x->x)(\\x->x)", "(\\ x -> x) (\\ x -> x)"}, {"\\x->((f x)y)", "\\ x -> f x y"},
		{"(let{}in x)", "let { } in x"}, {"(let{}in x)y", "(let { } in x) y"}, {"f(let{}in x)", "f (let { } in x)"}, {"(let{}in x):a", "(let { } in x) : a"}, {"let{}in(x:a)", "let { } in x : a"},
		{"let{x=(\\y->y);z=(1:a);x:E a=>a}in(let{}in z)", "let { x : E a => a ; x = \\ y -> y ; z = 1 : a } in let { } in z"}, {"let{f x y=f}in f", "let { f = \\ x y -> f } in f"},
		{"case(x)of{y->(z)}", "case x of { y -> z }"}, {"(case x of{y->z})1", "(case x of { y -> z }) 1"}, {"f(case x of{y->z})", "f (case x of { y -> z })"}, {"(case x of{y->z}):a", "(case x of { y -> z }) : a"},
		{"case(\\x->x)of{C->(\\x->x);D->(case x of{_->1});((E))->(x:a)}", "case \\ x -> x of { C -> \\ x -> x ; D -> case x of { _ -> 1 } ; E -> x : a }"}, {"case(x:a)of{C(D)(E 1)->1}", "case x : a of { C D (E 1) -> 1 }"}, {"case(case x of{y->z})of{(_)->(let{}in 1)}", "case case x of { y -> z } of { _ -> let { } in 1 }"},
		{"(x:a):b", "(x : a) : b"}, {"((x:a))", "x : a"}, {"(x:a)y", "(x : a) y"}, {"f(x:a)", "f (x : a)"}, {"(f x):a", "f x : a"}, {"f x:(E(a),F(L b))=>(a->b)", "f x : (E a, F (L b)) => a -> b"}, {"(1):Int", "1 : Int"}, {"(C x):L(a)", "C x : L a"},
	})
}

// P6.2: patterns: brackets around those within that have things.
func TestPrintPats(t *testing.T) {
	for _, x := range []printed{
		{"((x))", "x"}, {"_", "_"}, {"(_)", "_"}, {"007", "7"}, {"(C)", "C"}, {"(C(x))", "C x"}, {"C(D)(E _)(1)(y)", "C D (E _) 1 y"}, {"C(D(E(F x))y)", "C (D (E (F x)) y)"},
	} {
		p, at := read.Pat(x.src)
		if s := read.PrintPat(p); at != taken || s != x.want {
			t.Errorf("%q: %q, %v, not %q", x.src, s, at, x.want)
		}
		p, at = read.Pat(x.want)
		if s := read.PrintPat(p); at != taken || s != x.want {
			t.Errorf("%q: %q, %v", x.want, s, at)
		}
	}
}

// P6.2: Same tells apart what is printed another way, and nothing else.
func TestSame(t *testing.T) {
	srcs := [][]string{
		{"", ";", "-- x"}, {"f = 1", "f=(01);"}, {"f = 2"}, {"g = 1"}, {"f x = 1", "f = \\ x -> 1", "f = (\\ x -> (1))"}, {"f y = 1"}, {"f x y = 1"}, {"f x = \\ y -> 1", "f = \\ x -> \\ y -> 1"},
		{"f = 1 ; g = 2"}, {"g = 2 ; f = 1"}, {"f : a ; f = 1", "f = 1 ; f : (a)"}, {"f : b ; f = 1"}, {"f : E a => a ; f = 1", "f : (E a) => a ; f = 1"}, {"f : F a => a ; f = 1"},
		{"data T = A"}, {"data T a = A"}, {"data T = A | B"}, {"data T = B | A"}, {"data T = A B"}, {"data T = A ; f = 1", "f = 1 ; data T = A"}, {"class K k { }"}, {"class E k => K k { }"}, {"class K j { }"}, {"class K k { m : k }"}, {"class K k { m : K k => k }"}, {"class K k { m : j }"},
		{"instance K T { }", "instance K (T) { ; }"}, {"instance K (T a) { }"}, {"instance K a => K T { }"}, {"instance K T { m = 1 }"}, {"instance K T { m = 2 }"}, {"instance J T { }"},
		{"f = x : a"}, {"f = x"}, {"f = x y"}, {"f = x (y z)"}, {"f = x y z", "f = (x y) z"}, {"f = X"}, {"f = case x of { y -> 1 }"}, {"f = case x of { _ -> 1 }"}, {"f = case x of { Y -> 1 }"}, {"f = let { } in x"}, {"f = let { x = 1 } in x"},
	}
	for i, l := range srcs {
		for j, m := range srcs {
			for _, x := range l {
				for _, y := range m {
					p, one := read.Program(x)
					q, two := read.Program(y)
					if one != taken || two != taken || read.Same(p, q) != (i == j) {
						t.Errorf("%q, %q: %v, %v, %v", x, y, read.Same(p, q), one, two)
					}
				}
			}
		}
	}
}

// P6.2: what is told of types changes no print, nor do places.
func TestPrintOfTyped(t *testing.T) {
	const src = "data L a = N ;\nclass K k { m : k } ;\ninstance K L { m = 1 } ;\nf = \\ x -> case x of { C y -> x }"
	p, _ := read.Program(src)
	star := api.Kind{From: []api.Kind{{}}}
	told := api.Scheme{Vars: []string{"q"}, Preds: []api.Pred{{Class: "Q", Type: types.Var("q")}}, Type: types.Var("q")}
	p.Datas[0].Kinds, p.Classes[0].Kind, p.Classes[0].Methods[0].Type.Kinds = []api.Kind{star}, star, []api.Kind{star}
	f := &p.Binds[0]
	f.Scheme, f.Sig, f.Group, f.At = told, told, 7, 99 // a sig is one only where it is said to be there
	f.Body.Types, f.Body.Pats[0].Type = []api.Type{types.Var("q")}, types.Var("q")
	f.Body.Kids[0].Pats[0].Types, f.Body.Kids[0].At = []api.Type{types.Var("q")}, 99
	if s := read.Print(p); s != src {
		t.Errorf("%q", s)
	}
}

// What is never read is told no promise of, but nothing panics.
func TestPrintOfOthers(t *testing.T) {
	for form := -1; form <= 12; form++ {
		e := api.Exp{Form: form, Name: "x", N: -5, Pats: []api.Pat{{}, {Form: form}}, Binds: []api.Bind{{}, {Has: true}}}
		for range 3 {
			read.PrintExp(e)
			read.Print(api.Program{Binds: []api.Bind{{Name: "f", Body: e}}})
			e = api.Exp{Form: form, Kids: []api.Exp{e}}
		}
		read.PrintPat(api.Pat{Form: form, N: -5, Kids: []api.Pat{{}, {Form: form, Kids: []api.Pat{{}}}}})
	}
	read.Print(api.Program{Datas: []api.Data{{}, {Cons: []api.Con{{}}}}, Classes: []api.Class{{Methods: []api.Sig{{}}}}, Insts: []api.Inst{{}, {Preds: []api.Pred{{}}}}, Binds: []api.Bind{{}}})
}

// A row that is as long as a source may be, and the greatest depth to which such a one leads.
func TestLongPrint(t *testing.T) {
	src := "f" + strings.Repeat(" x", 1999)
	e, at := read.Exp(src)
	if at != taken || read.PrintExp(e) != src {
		t.Error(at, len(read.PrintExp(e)))
	}
	src = "C" + strings.Repeat(" _", 1999)
	p, at := read.Pat(src)
	if at != taken || read.PrintPat(p) != src {
		t.Error(at, len(read.PrintPat(p)))
	}
	if q, at := read.Program(strings.Repeat(";", 4000)); at != taken || read.Print(q) != "" {
		t.Error(q, at)
	}
}
