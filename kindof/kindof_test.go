package kindof_test

import (
	"reflect"
	"slices"
	"strings"
	"testing"

	"fugue/api"
	"fugue/kindof"
	"fugue/kinds"
	"fugue/read"
	"fugue/scope"
	"fugue/tread"
	"fugue/types"
)

// program is a source's, which scope takes.
func program(t *testing.T, src string) api.Program {
	t.Helper()
	p, at := read.Program(src)
	if at != (api.At{}) {
		t.Fatal(src, at)
	}
	if at := scope.Check(p); at != (api.At{}) {
		t.Fatal(src, at)
	}
	return p
}

// kinded is a source's program with its kinds.
func kinded(t *testing.T, src string) api.Program {
	t.Helper()
	p, at := kindof.Kinds(program(t, src))
	if at != (api.At{}) {
		t.Fatal(src, at)
	}
	return p
}

func prints(l []api.Kind) []string {
	var out []string
	for _, k := range l {
		out = append(out, kinds.Print(k))
	}
	return out
}

// told is all kinds of a program in print, in the row of its source: of data types, classes each ahead of its methods,
// and signatures, those of the program ahead of instances'.
func told(p api.Program) []string {
	var l []string
	for _, d := range p.Datas {
		l = append(l, prints(d.Kinds)...)
	}
	for _, c := range p.Classes {
		l = append(l, kinds.Print(c.Kind))
		for _, m := range c.Methods {
			l = append(l, prints(m.Type.Kinds)...)
		}
	}
	eachSig(&p, func(at int, s *api.Scheme) { l = append(l, prints(s.Kinds)...) })
	return l
}

// tells holds the kinds that are told of a source against those that are wanted; `, ` stands between them.
func tells(t *testing.T, src, want string) {
	t.Helper()
	p, at := kindof.Kinds(program(t, src))
	if got := strings.Join(told(p), ", "); got != want || at != (api.At{}) {
		t.Errorf("%s: %s, %v, not %s", src, got, at, want)
	}
}

// refused holds what is told of sources against ErrKind, at the place that is marked by #.
func refused(t *testing.T, sources ...string) {
	t.Helper()
	for _, marked := range sources {
		ahead, behind, is := strings.Cut(marked, "#")
		if !is || strings.Contains(behind, "#") {
			t.Fatal("no mark, or one too many:", marked)
		}
		p, at := kindof.Kinds(program(t, ahead+behind))
		if want := (api.At{Errno: api.ErrKind, At: len(ahead)}); at != want || !reflect.DeepEqual(p, api.Program{}) {
			t.Errorf("%s: %v, %v, not %v", marked, p, at, want)
		}
	}
}

// P10.1: kinds of data types, by themselves.
func TestDatas(t *testing.T) {
	tells(t, "", "")
	tells(t, "data T = A", "")
	tells(t, "data T a = A", "*")
	tells(t, "data T a b c = A", "*, *, *")
	tells(t, "data T a b = A a Int | B (a -> b) Bool", "*, *")
	tells(t, "data T f = A (f Int)", "* -> *")
	tells(t, "data T f = A (f Int) (f Bool -> f (f Int))", "* -> *")
	tells(t, "data T f a = A (f a)", "* -> *, *")
	tells(t, "data T f a b = A (f a b)", "* -> * -> *, *, *")
	tells(t, "data T f a b = A (f a) | B (a b)", "(* -> *) -> *, * -> *, *")
	tells(t, "data T h f g a = A (h f (g a)) | B (f a)", "(* -> *) -> * -> *, * -> *, * -> *, *")
	tells(t, "data T a = A (T a -> T (T a))", "*")
	tells(t, "data Fix f = In (f (Fix f))", "* -> *")
	tells(t, "data T f g = A (T g f) (f Int)", "* -> *, * -> *")
	tells(t, "data T f g = A (T f f) (g Int)", "* -> *, * -> *")
	tells(t, "data T a b c d e f g h = A (a b c d e f g h)", "* -> * -> * -> * -> * -> * -> * -> *, *, *, *, *, *, *, *")
	// What an application is given tells of what is given it; a variable of which nothing is asked is of types.
	tells(t, "data T f a = A (f a) ; data U = B (T U2 Int) ; data U2 a = C", "* -> *, *, *")
	tells(t, "data P a = A ; data T f = B (f P)", "*, (* -> *) -> *")
	tells(t, "data P f = A (f Int) ; data T f = B (f P)", "* -> *, ((* -> *) -> *) -> *")
	tells(t, "data P a b = A ; data T f = B (f (P Int))", "*, *, (* -> *) -> *")
}

// P10.1: data types that come in one another's fields are one group; what stands behind asks nothing of those ahead.
func TestDataGroups(t *testing.T) {
	tells(t, "data A f = A (B f) ; data B g = B (A g) (g Int)", "* -> *, * -> *")
	tells(t, "data B g = B (A g) (g Int) ; data A f = A (B f)", "* -> *, * -> *")
	tells(t, "data A f = A (B f) ; data B g = B (C g) ; data C h = C (A h) | D (h Int)", "* -> *, * -> *, * -> *")
	tells(t, "data A f = A (B f) ; data B g = B (g Int)", "* -> *, * -> *") // another group, though it stands behind
	tells(t, "data A f g = A (B g f) ; data B f g = B (A g f) (f Int)", "*, * -> *, * -> *, *")
	refused(t, "data A a = A ; data #T f = B (A f) (f Int)", "data #T f = B (A f) (f Int) ; data A a = A")
	refused(t, "data A a = A (B a) ; data B a = B ; data #C = C (A B)", "data A a = A (T2 a) ; data T2 a = B ; data #C = C (T2 T2)")
	// Of one group all that is asked counts, wherever it stands.
	tells(t, "data A f = A (B f) ; data B f = B (A P) (f Int) ; data P a = P", "* -> *, * -> *, *")
	tells(t, "data P a = P ; data A f = A (B f) ; data B f = B (A P)", "*, * -> *, * -> *")
}

// P10.1: data types of no kind, at their group's place: the first at which, with those ahead of it, there are none.
func TestDatasRefused(t *testing.T) {
	refused(t, "data #T = A (T Int)", "data #T a = A (a a)", "data #T a = A T", "data #T f = A f (f Int)", "data #T f = A (f Int) f", "data #T a = A (Int a)")
	refused(t, "data #T a = A (Int -> T)", "data #T f = A (f Int) (f f)", "data #T f a = A (f a) (a f)", "data #T f a = A (f a Int) (f a)", "data #T a = A (a -> Int) (a Int)")
	refused(t, "data #T a = A (T T)", "data #T a = A (T Int a)", "data #T f = A (f Int) (f T)", "data T a = A a ; data #U = B (T T)")
	refused(t, "data #T = A (Bool Int)", "data #T a b = A (a b) (b a)", "data #T a b c = A (a b) (b c) (c a)")
	// Those ahead in the row of groups are refused first, wherever they stand.
	refused(t, "data A = A B Int Int ; data #B a = B (a a)", "data #A a = A (a a) ; data B b = B (b b)", "data A = A (B Int) ; data B a = B (C a) ; data #C a = C (a a)")
	refused(t, "data B = B (A Int) (Int Int) ; data #A a = A (a a)")
	// Within a group the first place at which there are none counts, not where all of them are asked.
	refused(t, "data A f = A (B f) f ; data #B f = B (A f) (f Int)", "data A f = A (B f) ; data B f = B (C f) f ; data #C f = C (A f) (f Int)")
	refused(t, "data A f = A (B f) ; data B f = B (C f) (f Int) ; data #C f = C (A f) f", "data #A = A (B Int Int) ; data B a = B A")
	refused(t, "data A f = A (B f) ; data #B f = B (A f) (f f) ; data C = C (A Int Int)", "data A a = A (B A) ; data #B a = B (A a)")
}

// P10.1: places count, not the row, within a group and among signatures; of instances the row counts.
func TestPlacesAndRows(t *testing.T) {
	turned := func(marked string) {
		t.Helper()
		ahead, behind, _ := strings.Cut(marked, "#")
		p := program(t, ahead+behind)
		for range 3 {
			if _, at := kindof.Kinds(p); at != (api.At{Errno: api.ErrKind, At: len(ahead)}) {
				t.Errorf("%s: %v", read.Print(p), at)
			}
			shuffle(&chance{1}, p.Datas)
			shuffle(&chance{1}, p.Classes)
			shuffle(&chance{1}, p.Binds)
			slices.Reverse(p.Datas)
			slices.Reverse(p.Classes)
			slices.Reverse(p.Binds)
		}
	}
	turned("data A f = A (B f) f ; data #B f = B (C f) (f Int) ; data C f = C (A f) (f Bool)")
	turned("data A f = A (B f) ; data B f = B (C f) f ; data #C f = C (A f) (f Int)")
	turned("data #A f = A (B f) (f f) ; data B f = B (A f) (f f)")
	turned("class B a => A a { } ; class A a => #B a { m : a Int ; n : a }")
	turned("class B a => A a { m : a } ; class A a => #B a { n : a Int } ; class B a => C a { o : a Int }")
	turned("x : a a ; #x = 1 ; y : a a ; y = 1 : a a ; z : a a ; z = 1")
	p := program(t, "class E a { } ; instance E (Int a) { } ; instance E (Bool a) { }")
	for _, want := range []int{25, 50} {
		if _, at := kindof.Kinds(p); at != (api.At{Errno: api.ErrKind, At: want}) {
			t.Error(at, want)
		}
		slices.Reverse(p.Insts)
	}
}

// P10.1: kinds of classes, and of their methods' schemes.
func TestClasses(t *testing.T) {
	tells(t, "class E a { }", "*")
	tells(t, "class E a { m : a }", "*, *")
	tells(t, "class E f { m : f Int }", "* -> *, * -> *")
	tells(t, "class E f { m : Int -> b ; n : f Int }", "* -> *, * -> *, *, * -> *") // of all methods
	tells(t, "class F f { map : (a -> b) -> f a -> f b }", "* -> *, * -> *, *, *")
	tells(t, "class F f { m : f g -> g Int }", "(* -> *) -> *, (* -> *) -> *, * -> *")
	tells(t, "class F f { m : b ; n : b Int -> f b }", "(* -> *) -> *, (* -> *) -> *, *, (* -> *) -> *, * -> *") // each method's variables are its own
	tells(t, "class A f { m : f Int } ; class A f => B f { }", "* -> *, * -> *, * -> *")
	tells(t, "class A f => B f { } ; class A f { m : f Int }", "* -> *, * -> *, * -> *")
	tells(t, "class A f { m : f Int } ; class B g { n : A f => f g }", "* -> *, * -> *, *, *, * -> *")
	tells(t, "class A f { m : f Int } ; class B a { n : A a => a Int }", "* -> *, * -> *, * -> *, * -> *")
	tells(t, "class A a { m : A (f a) => f a }", "*, *, * -> *")
	tells(t, "data T f = A (f Int) ; class E f { m : T f }", "* -> *, * -> *, * -> *")
	// Of one group: one above the other, or in a predicate of a method.
	tells(t, "class B a => A a { } ; class A a => B a { m : a Int }", "* -> *, * -> *, * -> *")
	tells(t, "class A a { m : B b => b a } ; class B b { n : A c => b c }", "*, *, * -> *, * -> *, * -> *, *")
	tells(t, "class A a { m : B b => b a } ; class B b { n : A c => b c } ; class C c { o : (A a, B b) => b c -> a }", "*, *, * -> *, * -> *, * -> *, *, *, *, *, * -> *")
	tells(t, "class B a => A a { } ; class B a { m : C c => c a } ; class C c { n : A a => c a -> a Int }",
		"* -> *, * -> *, * -> *, (* -> *) -> *, (* -> *) -> *, (* -> *) -> *, * -> *")
	// Classes and data types of one name are not the same.
	tells(t, "data A a = C ; class A f { m : f Int } ; class B a { n : a -> A a }", "*, * -> *, * -> *, *, *")
}

// P10.1: classes of no kind.
func TestClassesRefused(t *testing.T) {
	refused(t, "class #E a { m : a a }", "class #E a { m : a ; n : a Int }", "class #E a { m : Int Int }", "class #E a { m : a -> E2 } ; data E2 a = A", "class #E a { m : b -> b a }  ; class F a { m2 : a a }")
	refused(t, "class A a { } ; class A b => #B b { b : b Int }", "class A a => #B a { b : a Int } ; class A a { }", "class A f { m : f Int } ; class B a { } ; class (B a, A a) => #C a { }")
	refused(t, "class A f { m : f Int } ; class #B a { n : A a => a }", "class A f { m : f Int } ; class #B a { n : A b => b -> a }", "class #A a { m : A (a Int) => a }")
	refused(t, "class B a => A a { m : a } ; class A a => #B a { n : a Int }", "class A a { m : B b => b a -> a } ; class B b { n : A c => b c } ; class #C a { o : a a }")
	refused(t, "class A a { m : B b => b a } ; class #B b { n : A b => Int }", "class #A a { m : a a ; n : B a => a } ; class B a { o : A a => a a }")
	refused(t, "data T a = C ; class #E f { m : f Int -> T f }", "class A a => #B a { m : a Int } ; class A a { n : a }")
	// Data types are ahead of classes, and classes of all else.
	refused(t, "class E a { m : a a } ; data #T a = A (a a)", "f : Int Int ; f = 1 ; class E a { n : a } ; instance E (Int a) { n = 1 } ; class #F a { m : a a }")
	// Those ahead in the row of groups are first.
	refused(t, "class A a => B a { m : a a } ; class #A a { n : a a }", "class #B a { m : a a } ; class A a { n : a a }", "class B a { m : A b => a a } ; class #A a { n : a a }")
}

// P10.1: instances.
func TestInstances(t *testing.T) {
	const classes = "class E a { e : a } ; class F f { f : f Int } ; class G f { g : f Int Int } ; data T a b = A a b ; data H f = H (f Int) ; data K = K ; "
	for _, src := range []string{
		"instance E Int { e = 1 }", "instance E K { e = K }", "instance E Bool { e = True }", "instance E (T a b) { e = e }", "instance F (T a) { f = f }", "instance G T { g = g }",
		"instance E (H f) { e = e }", "instance F f => E (H f) { e = e }", "instance (E b, E a, E a) => E (T a b) { e = e }", "instance E a => F (T a) { f = f }", "instance G (T) { g = g }",
	} {
		if _, at := kindof.Kinds(program(t, classes+src)); at != (api.At{}) {
			t.Error(src, at)
		}
	}
	refused(t,
		classes+"instance #E T { e = e }", classes+"instance #E (T a) { e = e }", classes+"instance #E (T a b c) { e = e }", classes+"instance #F T { f = f }", classes+"instance #F (T a b) { f = f }",
		classes+"instance #F Int { f = f }", classes+"instance #F K { f = f }", classes+"instance #E (Int a) { e = e }", classes+"instance #E H { e = e }", classes+"instance #F H { f = f }", classes+"instance #F (K a) { f = f }",
		classes+"instance #G (T a) { g = g }", classes+"instance #F (T a b c) { f = f }",
		classes+"instance E f => #E (H f) { e = e }", classes+"instance F a => #E (T a b) { e = e }", classes+"instance (E a, F b) => #E (T a b) { e = e }", classes+"instance (F f, G f) => #E (H f) { e = e }",
	)
	// In their row, ahead of signatures; bodies count among these.
	refused(t, classes+"instance E Int { e = 1 : Int Int } ; instance #F Int { f = f } ; instance E T { e = e }", "f : Int Int ; f = 1 ; class E a { e : a } ; instance #E (Int a) { e = 1 }")
}

// P10.1: signatures of the program's names, of names in lets, and annotations, wherever they stand.
func TestSignatures(t *testing.T) {
	tells(t, "x : a ; x = 1", "*")
	tells(t, "x : Int ; x = 1", "")
	tells(t, "x = 1 ; y : f a -> f Int ; y = 1", "* -> *, *")
	tells(t, "x : a -> b ; x = 1 ; y : a Int ; y = 1", "*, *, * -> *")
	tells(t, "x : f a ; x = let { y : f ; y = 1 ; z : f Int ; z = let { v : g f -> f a ; v = 1 } in 2 } in (1 : f (a Int))",
		"* -> *, *, *, * -> *, (* -> *) -> *, * -> *, *, * -> *, * -> *") // each one's variables are its own
	tells(t, "x = \\ y -> case (1 : a) of { 1 -> (2 : b Int) ; _ -> f (3 : a b -> b c) } ; f = 1 : c d", "*, * -> *, (* -> *) -> *, * -> *, *, * -> *, *")
	tells(t, "x = ((1 : f Int) : a) 1", "*, * -> *")
	tells(t, "data T f = A (f Int) ; x : T f -> g f ; x = 1", "* -> *, * -> *, (* -> *) -> *")
	tells(t, "class F f { map : f a } ; x : F m => m Int -> a ; x = x", "* -> *, * -> *, *, * -> *, *")
	tells(t, "class F f { map : f a } ; x : (F m, F n) => Int ; x = x", "* -> *, * -> *, *, * -> *, * -> *")
	tells(t, "class F f { map : f a } ; x : F (m a) => Int ; x = x", "* -> *, * -> *, *, * -> * -> *, *")
	tells(t, "class E a { e : a } ; instance E Int { e = let { g : f Int ; g = 1 } in (g : f a) }", "*, *, * -> *, * -> *, *")
}

// P10.1: the least place of those that are refused.
func TestSignaturesRefused(t *testing.T) {
	refused(t, "x : Int Int ; #x = 1", "x : a a ; #x = 1", "x : a -> a Int ; #x = 1", "data T a = A ; x : T ; #x = 1", "data T a = A ; x : T T ; #x = 1", "data T a = A ; x : T Int Int ; #x = 1")
	refused(t, "class F f { map : f a } ; x : F Int => Int ; #x = x", "class F f { map : f a } ; x : F a => a ; #x = x", "class E a { e : a } ; x : E a => a Int ; #x = x", "class E a { e : a } ; class F f { map : f a } ; x : (E a, F a) => Int ; #x = x")
	refused(t, "x = #1 : Int Int", "x = let { y : a a ; #y = 1 } in y", "x = let { y = #1 : a a } in y", "x = \\ y -> #y : a a", "x = add (#1 : a a) 2", "x = case 1 of { _ -> #1 : a a }", "x = case #1 : a a of { _ -> 1 }",
		"x = (#1 : a a) : a", "x = #(1 : a) : a a", "x = let { y = 1 } in #y : a a", "x = let { y = let { z : a a ; #z = 1 } in z } in y", "class E a { e : a } ; instance E Int { e = #1 : a a }",
		"class E a { e : a } ; instance E Int { e = let { y : a a ; #y = 1 } in y }")
	refused(t, "x : a a ; #x = 1 ; y : a a ; y = 1", "y : a a ; x = #1 : b b ; y = 1", "class E a { e : a } ; instance E Int { e = #1 : a a } ; x : a a ; x = 1", "x : a a ; #x = 1 ; class E a { e : a } ; instance E Int { e = 1 : a a }",
		"x = let { y : a a ; #y = (1 : a a) } in (1 : a a)", "x = let { y = 1 ; z : a a ; #z = 1 } in (1 : a a)", "x = f (#1 : a a) (1 : b b) ; f = 1")
}

// P10.1: a name without a signature, and a bind's Scheme, are left as they are.
func TestNothingElseIsChanged(t *testing.T) {
	bad := api.Scheme{Vars: []string{"a"}, Kinds: []api.Kind{of(of())}, Preds: []api.Pred{{Class: "Q"}}, Type: types.App(types.Var("a"), types.Var("a"))}
	p := program(t, "data T a = A a ; class E a { e : a } ; instance E Int { e = x } ; x = let { y = 1 ; z : a ; z = 1 } in case 1 of { A w -> f (\\ v -> (w : b)) } ; f = 1")
	p.Binds[0].Scheme, p.Binds[0].Sig, p.Binds[0].Group = bad, bad, 7
	let := &p.Binds[0].Body
	let.Binds[0].Scheme, let.Binds[0].Sig, let.Types = bad, bad, []api.Type{bad.Type}
	let.Kids[0].Pats[0].Type, let.Kids[0].Pats[0].Types = bad.Type, []api.Type{bad.Type}
	let.Kids[0].Kids[0].Sig = bad // an EInt
	q, at := kindof.Kinds(p)
	if at != (api.At{}) {
		t.Fatal(at)
	}
	if got := strings.Join(told(q), ", "); got != "*, *, *, *, *" {
		t.Error(got)
	}
	for i := range q.Datas {
		q.Datas[i].Kinds = nil
	}
	q.Classes[0].Methods[0].Type.Kinds = nil
	eachSig(&q, func(at int, s *api.Scheme) { s.Kinds = nil })
	if !alike(reflect.ValueOf(p), reflect.ValueOf(q)) {
		t.Errorf("%v, not %v", q, p)
	}
}

// typ is a type in print.
func typ(t *testing.T, src string) api.Type {
	t.Helper()
	x, at := tread.ReadType(src)
	if at != (api.At{}) {
		t.Fatal(src, at)
	}
	return x
}

// P10.2: types of kinds, and of none.
func TestOf(t *testing.T) {
	p := kinded(t, "data T a b = A a b ; data H h a = H (h Maybe) a ; data Maybe a = N")
	names := []string{"a", "f", "g", "h"}
	l := []api.Kind{of(), of(of()), of(of(), of()), of(of(of()), of(), of())}
	for src, want := range map[string]string{
		"a": "*", "f": "* -> *", "g": "* -> * -> *", "h": "(* -> *) -> * -> * -> *", "f a": "*", "f (f a)": "*", "g a": "* -> *", "g a a": "*", "h f": "* -> * -> *", "h f a": "* -> *", "h f a a": "*",
		"h (g a) (f a)": "* -> *", "h (h f a)": "* -> * -> *", "Int": "*", "Bool": "*", "a -> f a": "*", "T": "* -> * -> *", "T a": "* -> *", "T a (f a)": "*", "H": "((* -> *) -> *) -> * -> *", "Maybe": "* -> *", "h Maybe Int Bool": "*",
		"Maybe (Maybe Int) -> T Int Int": "*", "h (T Int) a": "* -> *",
	} {
		if k, e := kindof.Of(p, names, l, typ(t, src)); e != api.OK || kinds.Print(k) != want {
			t.Errorf("%s: %s, %v, not %s", src, kinds.Print(k), e, want)
		}
	}
	for _, src := range []string{
		"b", "No", "a a", "f f", "f g", "g f", "f a a", "h a", "h g", "h f f", "Int Int", "Int a", "f -> a", "a -> f", "a -> g a", "T f", "T a a a", "H Maybe", "H f", "H h", "Maybe Maybe", "f b", "f No", "b a", "No a", "E", "A", "True", "h f a a a", "f (f f)",
	} {
		if k, e := kindof.Of(p, names, l, typ(t, src)); e != api.ErrKind || len(k.From) != 0 {
			t.Errorf("%s: %s, %v", src, kinds.Print(k), e)
		}
	}
	to, arrow := types.Con("->"), of(of(), of())
	for _, x := range []struct {
		t    api.Type
		want api.Kind
		e    api.Errno
	}{
		{to, arrow, api.OK}, {types.App(to, types.Var("a")), of(of()), api.OK}, {types.App(types.Var("f"), types.App(to, types.Var("a"))), of(), api.ErrKind},
		{types.App(types.Var("h"), types.App(to, types.Var("a"))), of(of(), of()), api.OK},
		{types.Meta(1), of(), api.ErrKind}, {types.App(types.Var("f"), types.Meta(1)), of(), api.ErrKind}, {types.App(types.Meta(1), types.Var("a")), of(), api.ErrKind},
		{types.All("a", types.Var("a")), of(), api.ErrKind}, {types.Fun(types.Var("a"), types.All("b", types.Con("Int"))), of(), api.ErrKind},
		{types.Con("a"), of(), api.ErrKind}, {types.Var("T"), of(), api.ErrKind}, {types.Con("E"), of(), api.ErrKind},
	} {
		if k, e := kindof.Of(p, names, l, x.t); e != x.e || !equal(k, x.want) {
			t.Errorf("%s: %s, %v", types.Print(x.t), kinds.Print(k), e)
		}
	}
	// A type that there is not is none, though a class has its name; the prelude's are there without any program's.
	if _, e := kindof.Of(kinded(t, "class E a { e : a }"), nil, nil, types.Con("E")); e != api.ErrKind {
		t.Error(e)
	}
	if k, e := kindof.Of(api.Program{}, nil, nil, types.Fun(types.Con("Int"), types.Con("Bool"))); e != api.OK || len(k.From) != 0 {
		t.Error(k, e)
	}
}

// scheme is a scheme in print.
func scheme(t *testing.T, src string) api.Scheme {
	t.Helper()
	x, at := tread.ReadScheme(src)
	if at != (api.At{}) {
		t.Fatal(src, at)
	}
	return x
}

const some = "data T a b = A a b ; data H f = H (f Int) ; class E a { e : a } ; class F f { f : f Int } ; class G h { g : h H } "

// P10.3: schemes with their kinds.
func TestScheme(t *testing.T) {
	p := kinded(t, some)
	for src, want := range map[string]string{
		"Int": "", "a": "*", "a -> b": "*, *", "f a": "* -> *, *", "f a -> a Int": "(* -> *) -> *, * -> *", "H f": "* -> *", "T (f Int) (g f)": "* -> *, (* -> *) -> *", "g H": "((* -> *) -> *) -> *",
		"E a => a": "*", "E a => Int": "*", "F a => Int": "* -> *", "G a => Int": "((* -> *) -> *) -> *", "(F f, E a) => f a": "* -> *, *", "F (f a) => Int": "* -> * -> *, *", "F (T a) => a": "*",
		"(E (f a), F a) => f a": "(* -> *) -> *, * -> *", "(E Int, F (T Int), G h) => h H": "((* -> *) -> *) -> *", "E (f a) => f Int": "* -> *, *", "a b c d -> c": "* -> * -> * -> *, *, *, *",
	} {
		x := scheme(t, src)
		got, e := kindof.Scheme(p, x)
		if e != api.OK || strings.Join(prints(got.Kinds), ", ") != want {
			t.Errorf("%s: %v, %v, not %s", src, prints(got.Kinds), e, want)
		}
		if got.Kinds = nil; !alike(reflect.ValueOf(got), reflect.ValueOf(x)) {
			t.Errorf("%s: changed: %v", src, got)
		}
		x.Kinds = make([]api.Kind, 3)
		if again, _ := kindof.Scheme(p, x); strings.Join(prints(again.Kinds), ", ") != want {
			t.Errorf("%s: its kinds are looked at: %v", src, again.Kinds)
		}
	}
	for _, src := range []string{
		"a a", "f -> f Int", "Int Int", "T", "T a", "T Int", "T a a a", "T T a", "H Int", "H a -> a", "H H", "No", "No a", "Q a => a", "E a => a Int", "F a => a", "F Int => Int", "E f => H f", "(E a, F a) => Int", "G H => Int", "G f => f f", "F (T a a) => Int",
		"E (Int Int) => Int", "(E a, Q b) => a", "Q Int => Int", "E No => Int", "f a -> a f", "T a => a",
	} {
		x := scheme(t, src)
		if got, e := kindof.Scheme(p, x); e != api.ErrKind || !reflect.DeepEqual(got, api.Scheme{}) {
			t.Errorf("%s: %v, %v", src, got, e)
		}
	}
	for _, x := range []api.Type{types.Meta(1), types.All("a", types.Var("a")), types.Var("b"), types.Con("->"), types.App(types.Var("a"), types.Meta(1)), types.Fun(types.All("b", types.Con("Int")), types.Con("Int"))} {
		if got, e := kindof.Scheme(p, api.Scheme{Vars: []string{"a"}, Type: x}); e != api.ErrKind || !reflect.DeepEqual(got, api.Scheme{}) {
			t.Errorf("%s: %v, %v", types.Print(x), got, e)
		}
		if got, e := kindof.Scheme(p, api.Scheme{Vars: []string{"a"}, Preds: []api.Pred{{Class: "E", Type: x}}, Type: types.Con("Int")}); e != api.ErrKind || !reflect.DeepEqual(got, api.Scheme{}) {
			t.Errorf("E %s: %v, %v", types.Print(x), got, e)
		}
	}
}

// P10.3: Vars in any row, and such as do not come in it.
func TestSchemeVars(t *testing.T) {
	x := scheme(t, "f a -> g f")
	x.Vars = []string{"c", "g", "a", "d", "f"}
	got, e := kindof.Scheme(api.Program{}, x)
	if want := "*, (* -> *) -> *, *, *, * -> *"; e != api.OK || strings.Join(prints(got.Kinds), ", ") != want || !slices.Equal(got.Vars, x.Vars) {
		t.Error(got, e)
	}
}

// P10.4: the prelude.
func TestPrelude(t *testing.T) {
	for range 2 {
		l := kindof.Prelude()
		want := []api.Data{
			{Name: "->", Vars: []string{"a", "b"}, Kinds: make([]api.Kind, 2)},
			{Name: "Int"},
			{Name: "Bool", Cons: []api.Con{{Name: "False"}, {Name: "True"}}},
		}
		if !alike(reflect.ValueOf(l), reflect.ValueOf(want)) {
			t.Fatal(l)
		}
		l[0].Name, l[0].Vars[0], l[0].Kinds[0].From, l[2].Cons[0].Name = "x", "x", make([]api.Kind, 1), "x"
	}
	if k, e := kindof.Of(api.Program{}, nil, nil, types.Con("->")); e != api.OK || kinds.Print(k) != "* -> * -> *" {
		t.Error(k, e)
	}
}
