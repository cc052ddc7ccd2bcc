package scheme_test

import (
	"reflect"
	"slices"
	"strings"
	"testing"

	"fugue/api"
	"fugue/classes"
	"fugue/kinds"
	"fugue/read"
	"fugue/scheme"
	"fugue/tread"
	"fugue/types"
	"fugue/unify"
)

// env is of a source; which names there are is not looked at.
func env(t *testing.T, src string) *classes.Env {
	t.Helper()
	p, at := read.Program(src)
	if at != (api.At{}) {
		t.Fatal(src, at)
	}
	return envOf(t, p)
}

func envOf(t *testing.T, p api.Program) *classes.Env {
	t.Helper()
	e, at := classes.New(p)
	if e == nil || at != (api.At{}) {
		t.Fatal(p, at)
	}
	return e
}

// of is a scheme of a text: its Vars and a point, then predicates and a type; variables m, n are what is not known, ?1, ?2.
// Without a point its Vars are all that come.
func of(t *testing.T, src string) api.Scheme {
	t.Helper()
	vars, rest, is := strings.Cut(src, ".")
	if !is {
		rest = src
	}
	x, at := tread.ReadScheme(rest)
	if at != (api.At{}) {
		t.Fatal(src, at)
	}
	if is {
		x.Vars = strings.Fields(vars)
	}
	put := func(x api.Type) api.Type {
		return types.Subst(x, []string{"m", "n"}, []api.Type{types.Meta(1), types.Meta(2)})
	}
	x.Type = put(x.Type)
	for i := range x.Preds {
		x.Preds[i].Type = put(x.Preds[i].Type)
	}
	return x
}

// text is a scheme as it stands, without Kinds: its Vars and a point, all predicates in brackets, its type.
func text(x api.Scheme) string {
	return strings.Join(x.Vars, " ") + ". (" + predsText(x.Preds) + ") => " + types.Print(x.Type)
}

func predsText(l []api.Pred) string {
	var all []string
	for _, p := range l {
		all = append(all, p.Class+" "+types.Print(p.Type))
	}
	return strings.Join(all, ", ")
}

func kindsText(l []api.Kind) string {
	var all []string
	for _, k := range l {
		all = append(all, kinds.Print(k))
	}
	return strings.Join(all, ", ")
}

func kindsOf(t *testing.T, l ...string) []api.Kind {
	t.Helper()
	var all []api.Kind
	for _, s := range l {
		k, errno := kinds.Read(s)
		if errno != api.OK {
			t.Fatal(s)
		}
		all = append(all, k)
	}
	return all
}

// P13.1: a type alone, whatever stands in it.
func TestMono(t *testing.T) {
	for _, src := range []string{"Int", "a", "m", "a -> L b m", "(a -> b) -> f (g a)"} {
		x := of(t, src).Type
		got := scheme.Mono(x)
		if !reflect.DeepEqual(got, api.Scheme{Type: x}) {
			t.Error(src, text(got))
		}
	}
}

// P13.1: what is not known, of these numbers, in the row of these; other numbers, and variables, stay.
func TestQuantify(t *testing.T) {
	meta := types.Meta
	for i, x := range []struct {
		metas []int
		preds []api.Pred
		t     api.Type
		want  string
	}{
		{nil, nil, meta(1), ". () => ?1"},
		{[]int{1}, nil, meta(1), "t1. () => t1"},
		{[]int{2}, nil, meta(1), "t2. () => ?1"},
		{[]int{7, 2}, []api.Pred{{Class: "E", Type: meta(2)}}, types.Fun(meta(3), meta(7)), "t7 t2. (E t2) => t7 -> ?3"},
		{[]int{3, 1, 2}, nil, types.Fun(meta(1), meta(2), meta(1), meta(3)), "t3 t1 t2. () => t2 -> t1 -> t3 -> t1"},
		{[]int{10, 1}, nil, types.App(meta(1), meta(10), meta(11), meta(101)), "t10 t1. () => t1 t10 ?11 ?101"},
		{[]int{0, -1, -9223372036854775808, 9223372036854775807}, nil, types.App(meta(0), meta(-1), meta(9223372036854775807), meta(-9223372036854775808), meta(1)), "t0 t-1 t-9223372036854775808 t9223372036854775807. () => t0 t-1 t9223372036854775807 t-9223372036854775808 ?1"},
		// Predicates stay in their row, each as often as it is there, of whatever type.
		{[]int{1}, []api.Pred{{Class: "O", Type: types.App(types.Con("L"), meta(1))}, {Class: "E", Type: meta(2)}, {Class: "O", Type: types.Var("a")}, {Class: "E", Type: meta(2)}}, types.Con("Int"), "t1. (O L t1, E ?2, O a, E ?2) => Int"},
		// A variable of that name is the same one, then.
		{[]int{1}, nil, types.Fun(types.Var("t1"), meta(1), types.Con("t1"), types.Var("1")), "t1. () => t1 -> t1 -> 1 -> t1"},
	} {
		got := scheme.Quantify(x.metas, x.preds, x.t)
		if text(got) != x.want || got.Kinds != nil {
			t.Error(i, text(got), got.Kinds)
		}
	}
	// The variables are such, and no constructors of these names.
	if got := scheme.Quantify([]int{4}, []api.Pred{{Class: "E", Type: meta(4)}}, meta(4)); !reflect.DeepEqual(got, api.Scheme{Vars: []string{"t4"}, Preds: []api.Pred{{Class: "E", Type: types.Var("t4")}}, Type: types.Var("t4")}) {
		t.Error(got)
	}
}

// P13.2: new types for each of Vars, those that do not come, too; all else stays.
func TestFresh(t *testing.T) {
	for _, x := range []struct {
		made        int
		scheme      string
		preds, typ  string
		first, many int
	}{
		{0, ". Int", "", "Int", 1, 0}, {0, ". a -> m", "", "a -> ?1", 1, 0}, {0, "a", "", "?1", 1, 1}, {3, "a", "", "?4", 4, 1},
		{1, "a b. E b => c -> b -> a", "E ?3", "c -> ?3 -> ?2", 2, 2}, {1, "b a. E b => c -> b -> a", "E ?2", "c -> ?2 -> ?3", 2, 2},
		{0, "a b c. c", "", "?3", 1, 3}, {0, "a b c. E b => Int", "E ?2", "Int", 1, 3},
		// Predicates in their row, each as often as it is there.
		{2, "(O b, E a, O b, E (L a), E d) => a -> b", "O ?3, E ?4, O ?3, E L ?4, E ?5", "?4 -> ?3", 3, 3}, {2, "b a. (O b, E (f a)) => f b", "O ?3, E f ?4", "f ?3", 3, 2},
		// Types in which a new number stands already.
		{0, "a. E m => m -> a", "E ?1", "?1 -> ?1", 1, 1}, {0, "f a. f a (f m)", "", "?1 ?2 (?1 ?1)", 1, 2},
	} {
		s := unify.New()
		for range x.made {
			s.Fresh()
		}
		preds, typ, by := scheme.Fresh(s, of(t, x.scheme))
		if predsText(preds) != x.preds || types.Print(typ) != x.typ || len(by) != x.many {
			t.Error(x.scheme, predsText(preds), types.Print(typ), by)
		}
		for i, n := range by {
			if !reflect.DeepEqual(n, types.Meta(x.first+i)) {
				t.Error(x.scheme, by)
			}
		}
		if next := s.Fresh(); next.N != x.first+x.many || s.Known() != nil {
			t.Error(x.scheme, next, s.Known())
		}
	}
}

// P13.2: what s knows of numbers is not put in.
func TestFreshOfKnown(t *testing.T) {
	s := unify.New()
	s.Fresh()
	s.Unify(types.Meta(1), types.Con("Int"))
	s.Unify(types.Meta(2), types.Con("Bool"))
	preds, typ, by := scheme.Fresh(s, of(t, "a. E m => a -> m"))
	if predsText(preds) != "E ?1" || types.Print(typ) != "?2 -> ?1" || len(by) != 1 || types.Print(by[0]) != "?2" || types.Print(s.Apply(typ)) != "Bool -> Int" {
		t.Error(preds, typ, by)
	}
}

// P13.3: the canonic form, and with it its print.
func TestCanon(t *testing.T) {
	for _, x := range []struct{ scheme, canon, print string }{
		{". Int", ". () => Int", "Int"}, {". a", ". () => a", "a"}, {"b", "a. () => a", "a"}, {". m -> n", ". () => ?1 -> ?2", "?1 -> ?2"},
		// Vars in the row in which they come in Type, whatever their own row; then those of predicates, in theirs.
		{"b a. b -> a", "a b. () => a -> b", "a -> b"}, {"a b. b -> a", "a b. () => a -> b", "a -> b"}, {"(a -> b) -> c -> b", "a b c. () => (a -> b) -> c -> b", "(a -> b) -> c -> b"}, {"g (f x) x", "a b c. () => a (b c) c", "a (b c) c"},
		{"(E z, E y) => x", "a b c. (E b, E c) => a", "(E b, E c) => a"}, {"(E z, E y) => y", "a b. (E a, E b) => a", "(E a, E b) => a"}, {"(O z, E y) => Int", "a b. (E b, O a) => Int", "(E b, O a) => Int"}, {"(E y, O z) => Int", "a b. (E a, O b) => Int", "(E a, O b) => Int"},
		{"(E (L z y), E (y x)) => w", "a b c d. (E L b c, E c d) => a", "(E (L b c), E (c d)) => a"},
		// Those alone that come.
		{"a b c. b", "a. () => a", "a"}, {"a b. Int", ". () => Int", "Int"}, {"a b. E b => Int", "a. (E a) => Int", "E a => Int"},
		// Letters that others have are left out: those of predicates, too; those of constructors, and of what is not known, are not.
		{"b. b -> a", "b. () => b -> a", "b -> a"}, {"b. a -> b", "b. () => a -> b", "a -> b"}, {"x y. x -> b -> y -> a", "c d. () => c -> b -> d -> a", "c -> b -> d -> a"}, {"x. E a => x", "b. (E a) => b", "E a => b"}, {"x y. E b => x -> y", "a c. (E b) => a -> c", "E b => a -> c"},
		{"x. A -> x", "a. () => A -> a", "A -> a"}, {"a b. c -> b -> a", "a b. () => c -> a -> b", "c -> a -> b"}, {"a b. b' -> b -> a", "a b. () => b' -> a -> b", "b' -> a -> b"}, {"m -> x", "a. () => ?1 -> a", "?1 -> a"},
		{"c b a. C a b c d", "a b c. () => C a b c d", "C a b c d"}, {"d c b. C d c b a", "b c d. () => C b c d a", "C b c d a"},
		// Predicates by their Class, then by their type's print, as texts, once each.
		{"(O b, E a) => b -> L a", "a b. (E b, O a) => a -> L b", "(E b, O a) => a -> L b"}, {"(E b, E a) => a -> b", "a b. (E a, E b) => a -> b", "(E a, E b) => a -> b"}, {"(E b, E a) => b -> a", "a b. (E a, E b) => a -> b", "(E a, E b) => a -> b"},
		{"(E a, E a) => a", "a. (E a) => a", "E a => a"}, {"(E a, O a, E a) => a", "a. (E a, O a) => a", "(E a, O a) => a"}, {"(E a, E b, E a, E b) => b", "a b. (E a, E b) => a", "(E a, E b) => a"}, {"(E (L a), E a, E (L a)) => a", "a. (E L a, E a) => a", "(E (L a), E a) => a"},
		{"(B a, Ab a, A a, B' a, Aa a) => a", "a. (A a, Aa a, Ab a, B a, B' a) => a", "(A a, Aa a, Ab a, B a, B' a) => a"}, {"(Z a, Ea a, EA a, E_ a, E1 a) => a", "a. (E1 a, EA a, E_ a, Ea a, Z a) => a", "(E1 a, EA a, E_ a, Ea a, Z a) => a"},
		{"(E (a -> b), E (L a), E Int, E (b a), E b, E m, E (L (L a))) => a -> b", "a b. (E ?1, E Int, E L (L a), E L a, E a -> b, E b, E b a) => a -> b", "(E ?1, E Int, E (L (L a)), E (L a), E (a -> b), E b, E (b a)) => a -> b"},
		{". (E b, E a) => Int", ". (E a, E b) => Int", "(E a, E b) => Int"}, {"x. (E b, E x) => Int", "a. (E a, E b) => Int", "(E a, E b) => Int"},
		// Brackets about applications alone, functions' types among them.
		{"E Int => a", "a. (E Int) => a", "E Int => a"}, {"E (f a) => a", "a b. (E b a) => a", "E (b a) => a"}, {"E (a -> a) => a", "a. (E a -> a) => a", "E (a -> a) => a"}, {"E m => Int", ". (E ?1) => Int", "E ?1 => Int"},
	} {
		y := of(t, x.scheme)
		if got := scheme.Canon(y); text(got) != x.canon || got.Kinds != nil {
			t.Error(x.scheme, "|", text(got), "|", x.canon)
		}
		if got := scheme.Print(y); got != x.print {
			t.Error(x.scheme, "|", got, "|", x.print)
		}
	}
	arrow := types.Con(types.Arrow)
	x := api.Scheme{Preds: []api.Pred{{Class: "F", Type: types.App(arrow, types.Con("Int"))}, {Class: "F", Type: arrow}}, Type: types.Con("Int")}
	if got := scheme.Print(x); got != "(F (->), F ((->) Int)) => Int" {
		t.Error(got)
	}
}

// P13.3: a letter's number goes beyond 25, and those of others are left out there, too.
func TestManyLetters(t *testing.T) {
	x := api.Scheme{Type: types.Con("T")}
	var want []string
	for i := range 60 {
		name := "v" + strings.Repeat("'", i)
		x.Vars = append(x.Vars, name)
		x.Type = types.App(x.Type, types.Var(name))
	}
	slices.Reverse(x.Vars)
	x.Type = types.App(x.Type, types.Var("c"), types.Var("b1"))
	for _, round := range []string{"", "1", "2"} {
		for l := 'a'; l <= 'z'; l++ {
			if name := string(l) + round; name != "c" && name != "b1" && len(want) < 60 {
				want = append(want, name)
			}
		}
	}
	if got := scheme.Canon(x); !slices.Equal(got.Vars, want) || types.Print(got.Type) != "T "+strings.Join(want, " ")+" c b1" {
		t.Error(got.Vars, types.Print(got.Type))
	}
}

// P13.3: Kinds go with their variables; none stay none.
func TestCanonKinds(t *testing.T) {
	for _, x := range []struct {
		scheme      string
		kinds       []string
		vars, canon string
	}{
		{"a", []string{"*"}, "a", "*"}, {"a b. b a", []string{"*", "* -> *"}, "a b", "* -> *, *"}, {"x u f. f x", []string{"*", "*", "* -> *"}, "a b", "* -> *, *"}, {"x u f. F u => f x", []string{"* -> * -> *", "(* -> *) -> *", "*"}, "a b c", "*, * -> * -> *, (* -> *) -> *"},
		{"a b. Int", []string{"*", "* -> *"}, "", ""}, {"a b. b", []string{"*", "* -> *"}, "a", "* -> *"}, {". a", nil, "", ""}, {"a b", nil, "a b", ""}, {"b a. b a", nil, "a b", ""},
	} {
		y := of(t, x.scheme)
		y.Kinds = kindsOf(t, x.kinds...)
		got := scheme.Canon(y)
		if strings.Join(got.Vars, " ") != x.vars || kindsText(got.Kinds) != x.canon {
			t.Error(x.scheme, got.Vars, kindsText(got.Kinds))
		}
	}
}

// P13.3: schemes that are the same, but for names, rows, what comes more than once and what does not come; Kinds are not asked.
func TestSame(t *testing.T) {
	for _, x := range []struct {
		a, b string
		is   bool
	}{
		{"a", "b", true}, {"a", ". a", false}, {". a", ". a", true}, {". a", ". b", false}, {". m", ". m", true}, {". m", ". n", false}, {"a", ". m", false}, {". Int", ". Bool", false}, {". Int", "a b. Int", true},
		{"a -> b", "b -> a", true}, {"a b. a -> b", "b a. a -> b", true}, {"a -> b", "a -> a", false}, {"a -> a", "a -> b", false}, {"a. a -> b", "b. b -> a", false}, {"a. a -> b", "c. c -> b", true}, {"a. a -> b", "a. b -> a", false}, {"b. a -> b", "c. a -> c", true}, {"a. a -> b", "b. a -> b", false}, {"a. a -> b", "a -> b", false},
		{"E a => a", "a", false}, {"E a => a", "O a => a", false}, {"E a => a", "E b => b", true}, {"E a => a", "(E a, E a) => a", true}, {"(E a, O a) => a", "(O b, E b) => b", true}, {"(E a, O b) => a -> b", "(E b, O a) => a -> b", false}, {"(E a, O b) => a -> b", "(O a, E b) => b -> a", true}, {"(E a, E b) => a -> b", "E a => a -> b", false},
		{"E b => a", "E a => b", true}, {"E b => a", "E a => a", false}, {"b. E b => a", "b. E b => a", true}, {"b. E a => b", "b. E b => b", false}, {"E (L a) => a", "E a => a", false}, {"E (L a) => a", "E (L b) => b", true},
		// In a row of predicates whose variables do not come in Type each one's place tells its letter.
		{"(E x, O y) => Int", "(O x, E y) => Int", false}, {"(E x, O y) => Int", "(E y, O x) => Int", true}, {"(E x, O x) => Int", "(O x, E x) => Int", true},
	} {
		a, b := of(t, x.a), of(t, x.b)
		if scheme.Same(a, b) != x.is || scheme.Same(b, a) != x.is {
			t.Error(x.a, "|", x.b, !x.is)
		}
	}
	a, b := of(t, "f a"), of(t, "g a")
	a.Kinds, b.Kinds = kindsOf(t, "* -> *", "*"), kindsOf(t, "(* -> *) -> *", "* -> *")
	if !scheme.Same(a, b) || !scheme.Same(a, of(t, "h b")) || !scheme.Same(of(t, "h b"), b) {
		t.Error("kinds")
	}
}

// A variable and a constructor of one name have one print, but are two.
func TestOneName(t *testing.T) {
	v, c := api.Pred{Class: "E", Type: types.Var("x")}, api.Pred{Class: "E", Type: types.Con("x")}
	var all []api.Scheme
	for _, l := range [][]api.Pred{{v, c}, {c, v}, {v, c, v, c}, {c, v, v, c, c}} {
		x := scheme.Canon(api.Scheme{Preds: l, Type: types.Con("x")})
		if len(x.Preds) != 2 || x.Preds[0].Type.Form == x.Preds[1].Type.Form {
			t.Error(x)
		}
		all = append(all, x)
	}
	for _, x := range all {
		if !scheme.Same(x, all[0]) {
			t.Error(x, all[0])
		}
	}
	if scheme.Same(api.Scheme{Preds: []api.Pred{v}}, api.Scheme{Preds: []api.Pred{c}}) || scheme.Same(scheme.Mono(v.Type), scheme.Mono(c.Type)) {
		t.Error("a variable is no constructor")
	}
	// Of what a variable stands for a constructor of its name does not.
	e := env(t, world)
	for _, typ := range []api.Type{v.Type, c.Type} {
		x := api.Scheme{Vars: []string{"x"}, Preds: []api.Pred{{Class: "E", Type: typ}}, Type: v.Type}
		if scheme.General(e, x, scheme.Mono(types.Con("Int"))) != (typ.Form == api.TVar) {
			t.Error(typ)
		}
	}
	// Letters that constructors have are not left out.
	if x := scheme.Canon(api.Scheme{Vars: []string{"x"}, Type: types.Fun(types.Var("x"), types.Con("a"))}); !slices.Equal(x.Vars, []string{"a"}) {
		t.Error(x)
	}
}

// world has classes O above N above E, O right above E, too, and S above none.
const world = "class (N a, E a) => O a { } ; class E a => N a { } ; class E a { } ; class S a { } ;" +
	"instance E Int { } ; instance E a => E (L a) { } ; instance (E a, O b) => E (P a b) { } ; instance N Int { } ; instance O Int { } ;" +
	"instance E V { } ; instance E (W a) { } ; instance (S a, E a) => S (L a) { } ; instance X Int { } ; instance S (D a) { }"

// P13.4: whether the first is more general than the second.
func TestGeneral(t *testing.T) {
	e := env(t, world)
	for _, x := range []struct {
		a, b string
		is   bool
	}{
		// Types alone.
		{"a", ". Int", true}, {". Int", "a", false}, {". Int", ". Int", true}, {". Int", ". Bool", false}, {"a", "b", true}, {"a -> b", "a -> a", true}, {"a -> a", "a -> b", false}, {"a -> b", "b -> a", true}, {"a -> a", ". Int -> Int", true}, {"a -> a", ". Int -> Bool", false},
		{"f a", "L b", true}, {"f a", ". Int", false}, {"f a", ". Int -> Bool", true}, {"f a -> f b", "L c -> L Int", true}, {"f a -> f a", "L c -> L Int", false}, {"L a", "f a", false}, {"a", "f a", true}, {"a -> b -> a", "(a -> b) -> c -> a -> b", true}, {"a -> b", "a -> b -> c", true}, {"a -> b -> c", "a -> b", false},
		{"a", ". m", true}, {". m", "a", false}, {". m", ". m", true}, {". m", ". n", false}, {". m", ". Int", false}, {"a -> a", ". m -> m", true}, {"a -> a", ". m -> n", false}, {"a. a -> m", ". n -> m", true}, {"a. a -> m", ". m -> n", false},
		// Variables that are none of Vars stand for themselves, in both.
		{". a", ". a", true}, {". a", ". b", false}, {". a", ". Int", false}, {"a", ". b", true}, {"a. a -> b", "a. a -> b", true}, {"a. a -> b", "c. c -> b", true}, {"a. a -> b", ". Int -> b", true}, {"a. a -> b", ". Int -> a", false}, {"a. a -> b", "a. b -> a", false}, {"a. b -> a", ". b -> a", true},
		// The second one's variables are none that come in the first one, whatever their names.
		{". a", "a", false}, {". a -> a", "a -> a", false}, {"a. a -> b", "a b. a -> b", false}, {"a. a -> b", "b. a -> b", false}, {"b. a -> b", "a. a -> b", false}, {"a. a -> b", "b. b -> b", false}, {"a. a -> b", "c. a -> c", false}, {". b -> c", "a b c. b -> c", false},
		{"a b. a -> b", "b a. b -> a", true}, {"a b. a -> b -> a", "b a. b -> a -> b", true}, {"a b. a -> b", "b. b -> a", true}, {"a b. a -> b -> a", "a b. b -> a -> a", false}, {"a b. L a -> b", "a b. b -> L a", false}, {"a b. a -> b", "a b. L b -> L a", true},
		// Predicates hold by those of the second one.
		{"E a => a", ". Int", true}, {"E a => a", ". Bool", false}, {"E a => a", "a", false}, {"E a => a", "E b => b", true}, {"E a => a", "O b => b", true}, {"O a => a", "E b => b", false}, {"N a => a", "O a => a", true}, {"O a => a", "N a => a", false}, {"S a => a", "O a => a", false}, {"a", "E a => a", true}, {"(E a, S a) => a", "(S b, N b) => b", true}, {"(E a, S a) => a", "N b => b", false}, {"(E a, S a) => a", "S b => b", false},
		{"E a => a -> b", "E b => a -> b", false}, {"E a => a -> b", "E a => a -> a", true}, {"(E a, O b) => a -> b", "O a => a -> a", true}, {"(E a, O b) => a -> b", "E a => a -> a", false}, {"(E a, O b) => a -> b", "(E b, O a) => b -> a", true}, {"(E a, O b) => a -> b", "(E b, O a) => a -> b", false},
		// By instances, and what is given within.
		{"E a => a", "L b", false}, {"E a => a", "E b => L b", true}, {"E a => a", "O b => L (L b)", true}, {"O a => a", "O b => L b", false}, {"O a => a", "O (L b) => L b", true}, {"E a => a", "O (L b) => L b", true}, {"E a => a", "O (L b) => L (L b)", true}, {"S a => a", "S b => L b", false}, {"S a => a", "(E b, S b) => L b", true}, {"E a => a", "E b => P b Int", true}, {"E a => a", "E b => P Int b", false}, {"E a => a", "O b => P Int b", true}, {"E a => a", "W b", true}, {"E a => a", ". W", false}, {"E a => a", "W b c", false}, {"E a => a", ". Int -> Int", false},
		{"S a => a", "D b", true}, {"S a => L a -> a", "L (D b) -> D b", true}, {"S (L a) => a", "(S b, O b) => b", true}, {"S (L a) => a", "S b => b", false}, {"E (P a b) => a -> b", "(N c, O d) => c -> d", true}, {"E (P a b) => a -> b", "(N c, N d) => c -> d", false}, {"E (P a b) => a -> b", ". V -> Int", true}, {"E (P a b) => a -> b", ". V -> V", false},
		{"E (f a) => f a", "E b => L b", true}, {"E (f a) => f a", "E (f a) => f a", true}, {"E (f a) => f a", "E (f b) => f a", false}, {"E (f Int) => f Bool", ". L Bool", true}, {"E (f a) => f Bool -> a", "D Bool -> V", false}, {"E (a b) => a b", ". m n", false}, {"E a => a", ". m", false}, {"E a => a", ". E m => m", true}, {"E a => a", ". E m => n", false}, {"E a => a", ". O m => L m", true},
		{"E Int => a", "b", true}, {"E Bool => a", "b", false}, {"E Bool => a", "E Bool => b", true}, {". E m => Int", ". Int", false}, {". E m => Int", ". E m => Int", true},
		// Of a class that is not there nothing is given; it may have instances.
		{"Z a => a", "Z a => a", false}, {"X a => a", "X a => a", false}, {"X a => a", ". Int", true}, {"X a => a", ". Bool", false}, {"a", "Z a => a", true},
		// Free variables of predicates.
		{". E a => Int", ". E a => Int", true}, {". E a => Int", "E a => Int", false}, {". E a => Int", ". O a => Int", true}, {". E a => Int", ". O b => Int", false}, {"b. E a => b", "a. E a => a", false}, {"b. E a => b", "c. E a => c", true}, {"b. (E a, O b) => b", "a. O a => a", false},
		// A variable that Type does not tell is one that comes nowhere else.
		{"E x => Int", ". Int", false}, {"E x => Int", "E x => Int", false}, {"E x => Int", ". E x => Int", false}, {"x. E (W x) => Int", ". Int", true}, {"S (D x) => a", "a", true}, {"E (L x) => a", "(E x, E a) => a", false}, {"(E a, E x) => a", "(E a, E x) => a", false}, {"E (P a x) => a", "O a => a", false}, {"x. Int", ". Int", true}, {"x y. a", ". a", true},
		{"(E (W x), E a) => a -> a", "(E b, S c) => b -> b", true}, {"x y. E (P (W x) Int) => y", ". m", true}, {"x y. E (P x y) => Bool", "x y. (O x, O y) => Bool", false}, {"a x. E x => a", ". E a => a", false}, {"a x. E x => a", "a b c. (E a, E b, E c) => a", false},
	} {
		if scheme.General(e, of(t, x.a), of(t, x.b)) != x.is {
			t.Error(x.a, "|", x.b, !x.is)
		}
	}
}

// P13.4: functions' types are of a constructor, that instances may be of; a variable of a constructor's name is none, nor is
// what is not known.
func TestGeneralForms(t *testing.T) {
	a := types.Var("a")
	e := envOf(t, api.Program{Classes: []api.Class{{Name: "E"}}, Insts: []api.Inst{
		{Class: "E", Con: types.Arrow, Vars: []string{"b", "a"}, Preds: []api.Pred{{Class: "E", Type: a}}}, {Class: "E", Con: "Int"}, {Class: "E"},
	}})
	x := of(t, "E a => a")
	for _, y := range []struct {
		t  api.Type
		is bool
	}{
		{types.Con("Int"), true}, {types.Fun(types.Con("Int"), a), true}, {types.Fun(a, types.Con("Int")), false}, {types.Fun(types.Con("Int"), a, a), true}, {types.Con(types.Arrow), false}, {types.App(types.Con(types.Arrow), types.Con("Int")), false},
		{types.Var("Int"), false}, {api.Type{Form: api.TMeta, Name: "Int"}, false}, {api.Type{Name: "Int"}, false}, {types.Con("Bool"), false}, {types.Meta(0), false}, {types.Con(""), true}, {types.App(types.Con("Int"), a), false},
	} {
		if scheme.General(e, x, scheme.Mono(y.t)) != y.is {
			t.Error(y)
		}
	}
	// The row of an instance's Vars tells which of what is given is asked for.
	e = env(t, "class A a { } ; class B a { } ; class C a { } ; instance (C x, A z, B y) => A (T z y x) { } ; instance A Int { } ; instance B Bool { } ; instance C V { }")
	for src, is := range map[string]bool{"T Int Bool V": true, "T V Bool Int": false, "T Bool Int V": false, "T Int V Bool": false, "T (T Int Bool V) Bool V": true, "T Int (T Int Bool V) V": false, "T Int Bool": false, "T Int Bool V V": false} {
		if scheme.General(e, of(t, "A a => a"), of(t, src)) != is {
			t.Error(src, !is)
		}
	}
}

// P13.4: Kinds, and what does not come, are not asked.
func TestGeneralKinds(t *testing.T) {
	e := env(t, world)
	a, b := of(t, "a f u. f a"), of(t, "b. L b")
	a.Kinds, b.Kinds = kindsOf(t, "*", "*", "* -> *"), kindsOf(t, "* -> * -> *")
	if !scheme.General(e, a, b) || !scheme.General(e, of(t, "f a"), b) || !scheme.General(e, a, of(t, "L b")) || scheme.General(e, b, a) {
		t.Error("kinds")
	}
}

// What the document says in its examples.
func TestExamples(t *testing.T) {
	if got := scheme.Print(of(t, "(O b, E a) => b -> L a")); got != "(E b, O a) => a -> L b" {
		t.Error(got)
	}
	e := env(t, "class E a { same : a -> a -> Bool }")
	f := of(t, "E x => x -> x -> Bool")
	if scheme.Print(f) != "E a => a -> a -> Bool" || !scheme.General(e, of(t, "a -> b -> Bool"), f) || scheme.General(e, f, of(t, "a -> a -> Bool")) {
		t.Error("examples")
	}
}
