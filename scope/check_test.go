package scope_test

import (
	"strings"
	"testing"

	"fugue/api"
	"fugue/scope"
)

// held holds what Check tells of sources against an error, at the place that is marked by #.
func held(t *testing.T, e api.Errno, sources ...string) {
	t.Helper()
	for _, marked := range sources {
		ahead, behind, is := strings.Cut(marked, "#")
		if is != (e != api.OK) || strings.Contains(behind, "#") {
			t.Fatal("no mark, or one too many:", marked)
		}
		want := api.At{}
		if is {
			want = api.At{Errno: e, At: len(ahead)}
		}
		if got := scope.Check(program(t, ahead+behind)); got != want {
			t.Errorf("%s: %v, not %v", marked, got, want)
		}
	}
}

// P8.2: where nothing is wrong.
func TestNothingWrong(t *testing.T) {
	held(t, api.OK,
		"", ";", "f = f", "f x = x", "f = g ; g = f",
		"f = add (sub 1 2) (mul 3 (div 4 5)) ; g = eq ; h = lt",
		"f = True ; g = False ; h x = case x of { True -> 1 ; False -> 2 }",
		"f : Int -> Bool ; f = f : Bool -> Int", "f : (a -> b) -> c ; f = f",
	)
	// What stands behind is there.
	held(t, api.OK,
		"f = C 1 ; g : E a => a ; g = m ; data D = C T ; class E a { m : D } ; data T = T",
		"instance E D { m = x } ; class E a { m : a } ; data D = D ; x = 1",
		"class A a => B a { } ; class A a { }", "class B a => A a { } ; class A a => B a { }", "class A a => A a { }",
		"data T f = A (f Int -> Bool) (T f)", "data T a b = A a b (a -> b) | B (T b a) | C",
		"f = case 1 of { A x -> x } ; data T = A Int",
	)
	// Types, constructors, classes and values' names are each among themselves.
	held(t, api.OK,
		"data A = A ; class A a { }", "data True = A ; data False = B", "class Int a { } ; class True a { }",
		"data A = B ; data B = A", "data T a = A a ; data U a = B a", "data T = Int | Bool",
	)
	// Names that only a program's binds and methods may not have.
	held(t, api.OK,
		"f add sub = add sub", "f = let { add = 1 ; eq = 2 } in add eq", "f x = case x of { add -> add }",
		"class E a { m : a } ; instance E Int { m = m }",
	)
	// The same name, further within, or beside.
	held(t, api.OK,
		"f x = (\\ x -> x) x", "f = \\ x -> \\ x -> x", "f x = case x of { x -> x ; x -> x }", "f f = let { f = f } in f",
		"f = let { x = let { x = 1 } in x } in x", "f = (\\ x -> x) (\\ x -> x)", "f x = case x of { _ -> 1 ; _ -> 2 }",
		"class E a { m : a } ; instance E Int { m = 1 } ; instance E Bool { m = 2 }",
	)
	// What other chapters refuse, or nobody does.
	held(t, api.OK,
		"class E a { m : a } ; instance E Int { } ; instance E Int { }", "data T a = A (a a) ; f : T ; f = A",
		"data T a = A ; class E a { } ; instance E T { } ; instance E (Int a) { }",
		"data T a b = A ; class E a { } ; class O a { } ; instance (E a, O b, E a) => E (T a b) { }",
		"data T = A Int ; f = A ; g = A 1 2", "data T = A Int Int ; f x = case x of { A 1 (_) -> A }",
		"class E a { m : b -> a } ; f : c -> a ; f = f : d -> e",
	)
}

// P8.2, 1: what is the prelude's own.
func TestOwn(t *testing.T) {
	held(t, api.ErrOwn,
		"data #Int = A", "data #Bool = A", "data T = A ; data #Bool = B",
		"data T = #True", "data T = #False", "data T = A | #True Int", "data T = A ; data U = #False",
		"#add = 1", "#sub x = x", "#mul = 1", "#div = 1", "#eq = 1", "lt : a ; #lt = 1", "f = add ; #add = f",
		"class E a { #add : a }", "class E a { m : a ; #lt : a }",
	)
	// At one place it is ahead of all else.
	held(t, api.ErrOwn,
		"data #Int a a = A", "data T = #True Q", "data T = #True a | True", "add : Q ; #add = 1", "#add = Q ; add = 2",
		"class E a { #eq : Q ; eq : a }", "f = case 1 of { True -> 1 } ; data T = #True Int",
	)
	// What stands at a lesser place is ahead of it.
	held(t, api.ErrTwice, "data #T a a = A ; add = 1")
	held(t, api.ErrNone, "f = #x ; add = 1")
	held(t, api.ErrArity, "f = case 1 of { #True x -> x } ; data T = True Int")
}

// P8.2, 2: what a program has twice.
func TestTwice(t *testing.T) {
	held(t, api.ErrTwice,
		"data T = A ; data #T = B", "data T = A ; data U = B ; data #T = C ; data T = D",
		"data T = A | #A", "data T = A ; data U = #A", "data T = A | B | #A | B", "data T = A ; data U = B | #A Int",
		"class E a { } ; class #E a { }", "class E a { } ; class O a { } ; class #E b { }",
		"f = 1 ; #f = 2", "f = 1 ; g = 2 ; #f = 3 ; f = 4", "f : a ; f = 1 ; #f = 2",
		"f = 1 ; class E a { #f : a }", "class E a { f : a } ; #f = 1", "class E a { f : a ; #f : a }",
		"class E a { f : a } ; class O a { #f : a }", "f = 1 ; class O a { g : a } ; class E a { #f : a } ; g = 1",
		"data #T a a = A", "data #T a b a = A", "class E a { } ; data T a b = A ; instance #E (T a a) { }",
		"class E a { } ; data T a b c = A ; instance #E (T a b a) { }",
	)
	// At one place it is ahead of what is none.
	held(t, api.ErrTwice,
		"data T = A | #A Q", "class E a { } ; data T a b = A ; instance Q b => #E (T a a) { }", "class E a { } ; class Q a => #E a { }",
		"class E a { m : a ; #m : Q }", "f = let { x : a ; x = 1 ; #x = y } in x",
	)
	// A bind of an instance that is no method is none where it first stands.
	held(t, api.ErrNone, "class E a { } ; instance E Int { #m = 1 ; m = 2 }")
}

// P8.2, 2: what an expression has twice, wherever it stands.
func TestTwiceWithin(t *testing.T) {
	held(t, api.ErrTwice,
		"f = let { x = 1 ; #x = 2 } in x", "f = let { x = 1 ; y = 2 ; #x y = 3 ; x = 4 } in x", "f = let { add = 1 ; #add = 1 } in 1",
		"f = let { x : a ; x = 1 ; #x = 2 } in x",
		"class E a { m : a } ; instance E Int { m = 1 ; #m = 2 }", "class E a { m : a ; n : a } ; instance E Int { n = 1 ; m = 1 ; #n = 2 }",
		"f x #x = 1", "f x y #x = 1", "f x #x x = 1", "f = \\ x y #y -> 1", "f = \\ add #add -> 1",
		"data P = P P P ; f x = case x of { P y #y -> y }", "data P = P P P ; f x = case x of { P (P y z) (P _ #y) -> y }",
		"data P = P P P ; f x = case x of { P (P y #y) y -> y }", "data P = P P P ; f x = case x of { y -> y ; P y #y -> y }",
	)
	held(t, api.ErrTwice,
		"f = add 1 (\\ x #x -> 1)", "f = (\\ x #x -> 1) 1", "f = \\ y -> \\ x #x -> 1", "f = let { g x #x = 1 } in 1", "f = let { } in \\ x #x -> 1",
		"f = case \\ x #x -> 1 of { _ -> 1 }", "f = case 1 of { 1 -> 1 ; _ -> \\ x #x -> 1 }", "f = (\\ x #x -> 1) : Int",
		"class E a { m : a } ; instance E Int { m x #x = 1 }", "f = let { g = 1 ; h = let { x = 1 ; #x = 2 } in x } in 1",
	)
}

// P8.2, 3: values' names that there are not, and constructors, in expressions and in patterns.
func TestNoValue(t *testing.T) {
	held(t, api.ErrNone,
		"f x = #g x", "f = #x", "f = add #x y", "f x = #y", "f = (\\ x -> x) #x", "f x = 1 ; g = #x", "f = \\ x -> add x #y",
		"f = let { x = 1 } in #y", "f = let { x = #y } in x", "f = add (let { x = 1 } in x) #x", "f = let { g x = 1 } in #x",
		"f = case #x of { x -> x }", "f = case 1 of { x -> x ; _ -> #x }", "f = case 1 of { x -> #y }", "f = #x : Int", "f = #it",
		"class E a { m : a } ; instance E Int { m = #x }", "class E a { m : a } ; instance E Int { m x = x } ; f = #x",
		"data T x = A x ; f = #x", "class E x { } ; f = #x", "f : x ; f = #x",
	)
	held(t, api.ErrNone,
		"f = #A", "f = add #A 1", "f = \\ x -> #A", "f = let { x = #A } in 1", "f = let { } in #A", "f = case #A of { _ -> 1 }",
		"f = case 1 of { _ -> #A }", "f = #A : Int", "f = #Int", "data T = A ; f = #T", "class E a { } ; f = #E",
		"class E a { m : a } ; instance E Int { m = #A }",
		"f = case 1 of { #A -> 1 }", "f = case 1 of { 1 -> 1 ; #A x -> x }", "data T = B T ; f = case 1 of { B (#A x) -> x }",
		"f = case 1 of { #Int -> 1 }", "f = case 1 of { #A x x -> x }", "f = #A : Q", "f = #x : Q",
	)
}

// P8.2, 3: types' constructors and variables that there are not.
func TestNoType(t *testing.T) {
	held(t, api.ErrNone,
		"data T = #A Q", "data T = A | #B Int (T -> Q)", "data T = #A (Q Int)", "data T = #A (T (T Q))", "data T = #A A",
		"data T = #A True", "class E a { } ; data T = #A E",
		"data T = #A a", "data T a = A a ; data U = #B a", "data T a = #A b", "data T a = A a | #B (a b)", "data T a = #A (a -> b)",
		"data T a = #A (T (b Int))",
	)
	held(t, api.ErrNone,
		"class E a { #m : Q }", "class E a { m : a ; #n : a -> Q a }", "class E a { } ; class O a { #m : E Q => a }", "class E a { #m : E (a Q) => a }",
		"f : Q ; #f = 1", "f : a -> Q ; #f = x", "class E a { } ; f : E Q => a ; #f = 1", "f : Int ; f = 1 ; g : True ; #g = 1", "#f = 1 ; f : Q",
		"f = let { g : Q ; #g = 1 } in g", "class E a { } ; f = let { g : E (Q a) => a ; h = 1 ; #g = 1 } in g",
		"f = #1 : Q", "class E a { } ; f = #1 : E Q => a", "f x = #add x 1 : a -> Q", "f = (#1 : Q) : Int", "f = #(1 : Int) : Q",
		"f = add 1 (#1 : Q)", "f = \\ x -> #x : Q", "f = case #1 : Q of { _ -> 1 }", "f = let { x = #1 : Q } in x", "f = case 1 of { _ -> #1 : Q }",
		"class E a { m : a } ; instance E Int { m = #1 : Q }",
		"class E a { } ; instance #E Q { }", "class E a { } ; instance #E (Q a) { }", "class E a { } ; instance #E E { }", "class E a { } ; instance #E True { }",
		"class E a { } ; data T a = A ; instance E b => #E (T a) { }", "class E a { } ; data T a = A ; instance (E a, E b) => #E (T a) { }",
		"class E a { } ; instance E a => #E Int { }",
	)
}

// P8.2, 3: classes that there are not, and methods.
func TestNoClass(t *testing.T) {
	held(t, api.ErrNone,
		"class O a => #E a { }", "class E a { } ; class (E a, O a) => #F a { }", "data O = A ; class O a => #E a { }", "class Int a => #E a { }",
		"class E a { #m : O b => a }", "class E a { #m : (E b, O b) => a }",
		"f : E a => a ; #f = 1", "class E a { } ; f : (E a, O a) => a ; #f = 1", "f = let { g : E a => a ; #g = 1 } in g", "f = #1 : E a => a",
		"instance #E Int { }", "data E = A ; instance #E Int { }", "instance #E Int { m = x }",
		"class E a { } ; data T a = A ; instance O a => #E (T a) { }", "class E a { } ; data T a = A ; instance (E a, O a) => #E (T a) { }",
	)
	held(t, api.ErrNone,
		"class E a { } ; instance E Int { #m = 1 }", "class E a { m : a } ; instance E Int { m = 1 ; #n = 2 }", "f = 1 ; class E a { } ; instance E Int { #f = 1 }",
		"class E a { m : a } ; class O a { } ; instance O Int { #m = 1 }", "class E a { m : a } ; class E a => O a { } ; instance O Int { #m = 1 }",
		"class E a { } ; instance E Int { #add = 1 }",
	)
	// Without its class an instance's binds are not asked for, but what stands in them is.
	held(t, api.ErrNone, "f = 1 ; g = #x ; instance E Int { m = 1 }", "class E a { m : a } ; instance E Int { m = #x ; n = 1 }")
	p := program(t, "instance E Int { m = x }")
	p.Insts[0].At = 30
	if got := scope.Check(p); got != (api.At{Errno: api.ErrNone, At: 21}) {
		t.Error(got)
	}
}

// P8.2, 4: as many things as a constructor has.
func TestArity(t *testing.T) {
	held(t, api.ErrArity,
		"f = case 1 of { #True x -> x }", "f = case 1 of { True -> 1 ; #False 1 -> 1 }", "f = case 1 of { #B 1 -> 1 } ; data T = B",
		"data T = A Int ; f = case 1 of { #A -> 1 }", "data T = A Int ; f = case 1 of { #A x y -> 1 }", "data T = A Int T ; f = case 1 of { A 1 (#A x) -> 1 }",
		"data T = A Int T ; f = case 1 of { A 1 #A -> 1 }", "data T = A Int ; f = case 1 of { #A A x x -> y }",
		"f = let { x = case 1 of { #True x -> 1 } } in x", "class E a { m : a } ; instance E Int { m = case 1 of { #True _ -> 1 } }",
	)
	held(t, api.ErrTwice, "data T = A Int Int Int ; f = case 1 of { A x #x (A y) -> y }")
}

// P8.2: of several constructors, or classes, of one name the first one counts; the prelude's stand ahead of all.
func TestFirstCounts(t *testing.T) {
	held(t, api.ErrTwice, "f = case 1 of { A -> 1 } ; data T = A | #A Int", "f = case 1 of { A -> 1 } ; data T = A ; data U = #A Int")
	held(t, api.ErrArity, "f = case 1 of { #A x -> 1 } ; data T = A | A Int", "f = case 1 of { #A x -> 1 } ; data T = A ; data U = A Int")
	held(t, api.ErrTwice, "instance E Int { m = 1 } ; class E a { m : a } ; class #E a { n : a }")
	held(t, api.ErrNone, "instance E Int { #n = 1 } ; class E a { m : a } ; class E a { n : a }")
	// What a second one has as methods is given, too, and is twice.
	held(t, api.ErrTwice, "f = n ; class E a { m : a } ; class #E a { n : a }")
	p := program(t, "n = 1 ; class E a { m : a } ; class E a { n : a }")
	p.Classes[1].At = 90
	if got := scope.Check(p); got != (api.At{Errno: api.ErrTwice, At: 42}) {
		t.Error(got)
	}
}

// P8.2: the least place of all.
func TestLeastPlace(t *testing.T) {
	held(t, api.ErrNone, "f = #x ; data T = A Q", "data T = #A Q ; f = x", "instance #E Int { } ; f = x", "f = #x ; instance E Int { }",
		"class O a => #E a { } ; data T = A Q", "f = #1 : Q ; class O a => E a { }", "f = add (#1 : Q) x", "f = add #x (1 : Q)",
		"f = case 1 of { #A -> x }", "f = let { x = #y ; x = 2 } in 1", "f = add #x A", "f = add #A x", "f x = case #y of { True x -> 1 }")
	held(t, api.ErrTwice, "f = 1 ; #f = x", "f = 1 ; #f = 2 ; g = x", "f x #x = A", "f = let { x = 1 ; #x = A } in y")
	held(t, api.ErrOwn, "#add = x ; f = 1 ; f = 2", "class E a { #eq : Q }")
	// A bind's, or a method's, name came ahead by the lesser place, whatever the row in the lists.
	p := program(t, "f = 1 ; f = 2")
	p.Binds[0], p.Binds[1] = p.Binds[1], p.Binds[0]
	if got := scope.Check(p); got != (api.At{Errno: api.ErrTwice, At: 8}) {
		t.Error(got)
	}
}

// P8.2: the row at one place, as where an expression is put behind a program, with places of its own.
func TestRowAtOnePlace(t *testing.T) {
	for _, c := range []struct {
		src, more string
		want      api.At
	}{
		{"f = case 1 of { True -> 1 }", "x", api.At{Errno: api.ErrNone, At: 0}},
		{"f = case 1 of { True x -> x }", strings.Repeat(" ", 16) + "x", api.At{Errno: api.ErrNone, At: 16}},
		{"f = case 1 of { True x -> x }", strings.Repeat(" ", 17) + "x", api.At{Errno: api.ErrArity, At: 16}},
		{"f = case 1 of { True x -> x }", strings.Repeat(" ", 12) + "\\ x x -> 1", api.At{Errno: api.ErrTwice, At: 16}},
		{"f = case 1 of { True x -> x }", strings.Repeat(" ", 11) + "\\ x x -> 1", api.At{Errno: api.ErrTwice, At: 15}},
		{"f = x", "\\ x x -> 1", api.At{Errno: api.ErrTwice, At: 4}},
		{"add = 1", "x", api.At{Errno: api.ErrOwn, At: 0}},
		{"f = 1 ; add = 2", "    \\ x x -> 1", api.At{Errno: api.ErrOwn, At: 8}},
		{"f x = it", "f 1", api.At{Errno: api.ErrNone, At: 6}},
		{"f x = x", "f (\\ x -> f x)", api.At{}},
	} {
		p, e := program(t, c.src), exp(t, c.more)
		p.Binds = append(p.Binds, api.Bind{Name: "it@", At: e.At, Body: e})
		if got := scope.Check(p); got != c.want {
			t.Errorf("%s, %s: %v, not %v", c.src, c.more, got, c.want)
		}
	}
}
