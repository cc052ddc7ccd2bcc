package tread_test

import (
	"reflect"
	"slices"
	"strings"
	"testing"

	"fugue/api"
	"fugue/lex"
	"fugue/tread"
)

// Types, written out as the document's words have them.
func tv(name string) api.Type        { return api.Type{Form: api.TVar, Name: name} }
func con(name string) api.Type       { return api.Type{Form: api.TCon, Name: name} }
func app(f, a api.Type) api.Type     { return api.Type{Form: api.TApp, Args: []api.Type{f, a}} }
func fun(from, to api.Type) api.Type { return app(app(con("->"), from), to) }

func pred(class string, t api.Type) api.Pred { return api.Pred{Class: class, Type: t} }

var (
	a, b, c = tv("a"), tv("b"), tv("c")
	list    = con("L")
	integer = con("Int")
	taken   = api.At{}
)

func refused(e api.Errno, at int) api.At { return api.At{Errno: e, At: at} }

// equal tells whether two types are written alike; nil and empty lists are one.
func equal(x, y api.Type) bool {
	return x.Form == y.Form && x.N == y.N && x.Name == y.Name && slices.EqualFunc(x.Args, y.Args, equal)
}

func equalPreds(x, y []api.Pred) bool {
	return slices.EqualFunc(x, y, func(p, q api.Pred) bool { return p.Class == q.Class && equal(p.Type, q.Type) })
}

func equalSchemes(x, y api.Scheme) bool {
	return slices.Equal(x.Vars, y.Vars) && len(x.Kinds) == 0 && len(y.Kinds) == 0 && equalPreds(x.Preds, y.Preds) && equal(x.Type, y.Type)
}

// lexed is a source's tokens.
func lexed(t *testing.T, src string) []lex.Token {
	t.Helper()
	l, e := lex.Lex(src)
	if e != taken {
		t.Fatalf("%.80q: %v", src, e)
	}
	return l
}

// brackets is a text in so many brackets.
func brackets(n int, s string) string { return strings.Repeat("(", n) + s + strings.Repeat(")", n) }

// many is so many predicates, in brackets.
func many(n int) string { return "(" + strings.Repeat("E a, ", n-1) + "E a)" }

// P5.2: sources that are types.
func TestReadType(t *testing.T) {
	for _, x := range []struct {
		src  string
		want api.Type
	}{
		{"a", a}, {"Int", integer}, {" a -- b", a}, {"x'_9", tv("x'_9")}, {"forall", tv("forall")},
		{"L a", app(list, a)},
		{"a b", app(a, b)},
		{"L a b c", app(app(app(list, a), b), c)},
		{"(L a) b", app(app(list, a), b)},
		{"L (a b)", app(list, app(a, b))},
		{"L (L a) (b c)", app(app(list, app(list, a)), app(b, c))},
		{"a -> b", fun(a, b)},
		{"a->b", fun(a, b)},
		{"a -> b -> c", fun(a, fun(b, c))},
		{"a -> (b -> c)", fun(a, fun(b, c))},
		{"(a -> b) -> c", fun(fun(a, b), c)},
		{"a b -> c a", fun(app(a, b), app(c, a))},
		{"L (a -> b) -> a", fun(app(list, fun(a, b)), a)},
		{"(a -> b) c", app(fun(a, b), c)},
		{"(a -> b) (b -> c) -> c", fun(app(fun(a, b), fun(b, c)), c)},
		{"((a))", a}, {"((L) (a))", app(list, a)}, {"((a) -> (b))", fun(a, b)},
		{"(a -> b) -> F a -> b", fun(fun(a, b), fun(app(con("F"), a), b))},
		{strings.Repeat("n", 32), tv(strings.Repeat("n", 32))},
		{"(\n\ta -- )\n) -- (", a},
	} {
		if got, e := tread.ReadType(x.src); e != taken || !equal(got, x.want) {
			t.Errorf("%q: %v, %v, not %v", x.src, got, e, x.want)
		}
	}
}

// P5.2: sources that are no types, each with the first token that may not stand there.
func TestReadTypeRefused(t *testing.T) {
	for _, x := range []struct {
		src string
		e   api.Errno
		at  int
	}{
		{"", api.ErrSyntax, 0}, {"  ", api.ErrSyntax, 2}, {"-- a", api.ErrSyntax, 4},
		{"->", api.ErrSyntax, 0}, {"-> a", api.ErrSyntax, 0}, {"a ->", api.ErrSyntax, 4}, {"a -> ", api.ErrSyntax, 5}, {"a -> -> b", api.ErrSyntax, 5},
		{"(", api.ErrSyntax, 1}, {")", api.ErrSyntax, 0}, {"()", api.ErrSyntax, 1}, {"(a", api.ErrSyntax, 2}, {"(a ", api.ErrSyntax, 3},
		{"a)", api.ErrSyntax, 1}, {"(a))", api.ErrSyntax, 3}, {"((a)", api.ErrSyntax, 4}, {"(a -> )", api.ErrSyntax, 6}, {"(->)", api.ErrSyntax, 1},
		{"(->) a b", api.ErrSyntax, 1}, {"(a, b)", api.ErrSyntax, 2}, {"a, b", api.ErrSyntax, 1}, {"a (b ; c)", api.ErrSyntax, 5},
		{"a 7", api.ErrSyntax, 2}, {"7", api.ErrSyntax, 0}, {"a _", api.ErrSyntax, 2}, {"_", api.ErrSyntax, 0}, {"a | b", api.ErrSyntax, 2},
		{"data", api.ErrSyntax, 0}, {"L of", api.ErrSyntax, 2}, {"(in)", api.ErrSyntax, 1}, {"a : b", api.ErrSyntax, 2}, {"a = b", api.ErrSyntax, 2},
		{"E a => a", api.ErrSyntax, 4}, {"(E a) => a", api.ErrSyntax, 6}, {"(E a => a)", api.ErrSyntax, 5}, {"{a}", api.ErrSyntax, 0}, {"\\ a", api.ErrSyntax, 0},
		{") a -", api.ErrChar, 4}, {"a -", api.ErrChar, 2}, {"forall a. a", api.ErrChar, 8}, {"?1", api.ErrChar, 0},
		{") 2147483648", api.ErrNumber, 2}, {") " + strings.Repeat("n", 33), api.ErrLong, 2},
		{strings.Repeat(" ", 4001), api.ErrLong, 0}, {strings.Repeat("#", 4001), api.ErrLong, 0}, {strings.Repeat(" ", 4000), api.ErrSyntax, 4000},
	} {
		if got, e := tread.ReadType(x.src); e != refused(x.e, x.at) || !reflect.DeepEqual(got, api.Type{}) {
			t.Errorf("%.80q: %v, %v, not %v at %d", x.src, got, e, x.e, x.at)
		}
		if got, e := tread.ReadScheme(x.src); x.src[:min(1, len(x.src))] != "E" && !strings.Contains(x.src, ") =>") && (e != refused(x.e, x.at) || !reflect.DeepEqual(got, api.Scheme{})) {
			t.Errorf("%.80q as a scheme: %v, %v, not %v at %d", x.src, got, e, x.e, x.at)
		}
	}
}

// Words: forty brackets may be open at one time, however many there are in all.
func TestDeepTypes(t *testing.T) {
	side := strings.TrimSpace(strings.Repeat(brackets(40, "a")+" ", 10))
	sides := strings.TrimSuffix(strings.Repeat(brackets(40, "a")+" -> ", 10), " -> ")
	for _, src := range []string{brackets(40, "a"), brackets(39, "a (b) (c)"), side, sides, brackets(39, "a (b) -> (c)"), "L " + brackets(40, "L a")} {
		if _, e := tread.ReadType(src); e != taken {
			t.Errorf("%.80q: %v", src, e)
		}
		if _, e := tread.ReadScheme(src); e != taken {
			t.Errorf("%.80q as a scheme: %v", src, e)
		}
	}
	for _, x := range []struct {
		src string
		at  int
	}{
		{brackets(41, "a"), 40}, {brackets(100, "a"), 40}, {strings.Repeat("(", 41), 40}, {strings.Repeat("(", 41) + ")", 40}, {strings.Repeat("(", 4000), 40},
		{brackets(40, "a (b)"), 42}, {brackets(40, "a -> (b)"), 45}, {"L " + brackets(41, "a"), 42}, {brackets(40, "a") + brackets(41, "b"), 121},
		{brackets(39, "(a) ((b))"), 44}, {"a -> " + brackets(41, "b"), 45},
	} {
		if got, e := tread.ReadType(x.src); e != refused(api.ErrDeep, x.at) || !reflect.DeepEqual(got, api.Type{}) {
			t.Errorf("%.80q: %v, %v, not at %d", x.src, got, e, x.at)
		}
		if got, e := tread.ReadScheme(x.src); e != refused(api.ErrDeep, x.at) || !reflect.DeepEqual(got, api.Scheme{}) {
			t.Errorf("%.80q as a scheme: %v, %v, not at %d", x.src, got, e, x.at)
		}
	}
	for _, x := range []struct {
		src string
		e   api.At
	}{{strings.Repeat("(", 40) + ") (", refused(api.ErrSyntax, 40)}, {brackets(39, "a , (("), refused(api.ErrSyntax, 41)}, {strings.Repeat("(", 40) + "a", refused(api.ErrSyntax, 41)}} {
		if _, e := tread.ReadType(x.src); e != x.e {
			t.Errorf("%q: %v", x.src, e)
		}
	}
	l := lexed(t, brackets(60, "a"))
	if got, i, e := tread.Type(l, 20); e != taken || i != 101 || !equal(got, a) {
		t.Error("brackets ahead of the place are counted:", got, i, e)
	}
	if got, i, e := tread.Atom(l, 19); e != refused(api.ErrDeep, 59) || i != 0 || !equal(got, api.Type{}) {
		t.Error(got, i, e)
	}
}

// P5.1: what stands among tokens, and the place behind it.
func TestTypeAndAtom(t *testing.T) {
	const src = "f : a -> L (b c) Int ; g = (a -> b) c , L => ( ) 7 case x"
	l := lexed(t, src)
	none := api.Type{}
	for _, x := range []struct {
		i          int
		whole      api.Type
		behind     int
		e          api.Errno
		bad        int // the token that is refused in the whole
		atom       api.Type
		atomBehind int
	}{
		{0, tv("f"), 1, 0, 0, tv("f"), 1},
		{1, none, 0, api.ErrSyntax, 1, none, 0},
		{2, fun(a, app(app(list, app(b, c)), integer)), 10, 0, 0, a, 3},
		{3, none, 0, api.ErrSyntax, 3, none, 0},
		{4, app(app(list, app(b, c)), integer), 10, 0, 0, list, 5},
		{5, app(app(b, c), integer), 10, 0, 0, app(b, c), 9},
		{6, app(b, c), 8, 0, 0, b, 7},
		{7, c, 8, 0, 0, c, 8},
		{8, none, 0, api.ErrSyntax, 8, none, 0},
		{9, integer, 10, 0, 0, integer, 10},
		{10, none, 0, api.ErrSyntax, 10, none, 0},
		{12, none, 0, api.ErrSyntax, 12, none, 0},
		{13, app(fun(a, b), c), 19, 0, 0, fun(a, b), 18},
		{19, none, 0, api.ErrSyntax, 19, none, 0},
		{20, list, 21, 0, 0, list, 21},
		{21, none, 0, api.ErrSyntax, 21, none, 0},
		{22, none, 0, api.ErrSyntax, 23, none, 0},
		{24, none, 0, api.ErrSyntax, 24, none, 0},
		{25, none, 0, api.ErrSyntax, 25, none, 0},
		{26, tv("x"), 27, 0, 0, tv("x"), 27},
		{27, none, 0, api.ErrSyntax, 27, none, 0},
	} {
		want := taken
		if x.e != 0 {
			want = refused(x.e, l[x.bad].At)
		}
		if got, i, e := tread.Type(l, x.i); e != want || i != x.behind || !equal(got, x.whole) {
			t.Errorf("Type at %d: %v, %d, %v", x.i, got, i, e)
		}
		if got, i, e := tread.Atom(l, x.i); e != want || i != x.atomBehind || !equal(got, x.atom) {
			t.Errorf("Atom at %d: %v, %d, %v", x.i, got, i, e)
		}
	}
}

// P5.1: an atom is refused within its brackets as a type is.
func TestAtomRefused(t *testing.T) {
	for _, x := range []struct {
		src string
		at  int
	}{{"x (a -> ) b", 8}, {"x (a", 4}, {"x (a , b)", 5}, {"x ()", 3}, {"x ((a)", 6}} {
		if got, i, e := tread.Atom(lexed(t, x.src), 1); e != refused(api.ErrSyntax, x.at) || i != 0 || !reflect.DeepEqual(got, api.Type{}) {
			t.Errorf("%q: %v, %d, %v", x.src, got, i, e)
		}
	}
	if got, i, e := tread.Atom(lexed(t, "(a) (b"), 0); e != taken || i != 3 || !equal(got, a) {
		t.Error("what stands behind an atom is none of its own:", got, i, e)
	}
}

// P5.1: predicates that stand there, with their =>.
func TestPreds(t *testing.T) {
	ea, ob := pred("E", a), pred("O", b)
	for _, x := range []struct {
		src  string
		i    int
		want []api.Pred
		to   int
	}{
		{"E a => a", 0, []api.Pred{ea}, 3},
		{"E a =>", 0, []api.Pred{ea}, 3},
		{"E a => )", 0, []api.Pred{ea}, 3},
		{"E a => E b => b", 0, []api.Pred{ea}, 3},
		{"E a => E b => b", 3, []api.Pred{pred("E", b)}, 6},
		{"(E a) => a", 0, []api.Pred{ea}, 5},
		{"(E a, O b) => a", 0, []api.Pred{ea, ob}, 8},
		{"(O b, E a, E a) => a", 0, []api.Pred{ob, ea, ea}, 11},
		{"E (L a) => a", 0, []api.Pred{pred("E", app(list, a))}, 6},
		{"(E (a -> b), O Int) => a", 0, []api.Pred{pred("E", fun(a, b)), pred("O", integer)}, 12},
		{"E ((a)) => a", 0, []api.Pred{ea}, 7},
		{"E Int => a", 0, []api.Pred{pred("E", integer)}, 3},
		{"f : (E a, O b) => a", 2, []api.Pred{ea, ob}, 10},
		{"( ( E a ) => a )", 1, []api.Pred{ea}, 6},
	} {
		if got, i, e := tread.Preds(lexed(t, x.src), x.i); e != taken || i != x.to || !equalPreds(got, x.want) {
			t.Errorf("%q: %v, %d, %v", x.src, got, i, e)
		}
	}
}

// P5.1: where no predicates stand, none are told, the place itself, and no error.
func TestNoPreds(t *testing.T) {
	for _, src := range []string{
		"", "a", "E", "E a", "E a -> b", "E a = b", "E a b => a", "E => a", "e a => a", "=> a", "() => a", "(E) => a", "(E a) -> b", "(E a)", "(E a",
		"(E a,) => a", "(, E a) => a", "(E a O b) => a", "(E a, O) => a", "(E a, o b) => a", "(E a, O b) -> a", "(E a, O b => a)", "((E a)) => a", "((E a), O b) => a",
		"(E a, (O b)) => a", "E a, O b => a", "E (a => a", "E () => a", "E (a,b) => a", "E (E a => a) => a", "E 7 => a", "E _ => a", "7 a => a", "E a ; => a", "(E a) b => a",
		"( E a => a )", "class E a => a", "E case => a",
	} {
		l := lexed(t, src)
		if got, i, e := tread.Preds(l, 0); e != taken || i != 0 || len(got) != 0 {
			t.Errorf("%q: %v, %d, %v", src, got, i, e)
		}
		l = lexed(t, "x ; "+src)
		if got, i, e := tread.Preds(l, 2); e != taken || i != 2 || len(got) != 0 {
			t.Errorf("%q behind others: %v, %d, %v", src, got, i, e)
		}
	}
}

// P5.1: sixteen predicates may stand there; of more the place's own token is refused, if they stand there at all.
func TestManyPreds(t *testing.T) {
	for n := 1; n <= 40; n++ {
		src := "x ; " + many(n) + " => a"
		l := lexed(t, src)
		got, i, e := tread.Preds(l, 2)
		s, j, f := tread.Scheme(l, 2)
		if n <= 16 {
			if e != taken || f != taken || len(got) != n || len(s.Preds) != n || i != len(l)-2 || j != len(l)-1 {
				t.Errorf("%d: %v, %d, %v; %v, %d, %v", n, got, i, e, s, j, f)
			}
			continue
		}
		if e != refused(api.ErrLong, 4) || len(got) != 0 || i != 0 || f != e || j != 0 || !reflect.DeepEqual(s, api.Scheme{}) {
			t.Errorf("%d: %v, %d, %v; %v, %d, %v", n, got, i, e, s, j, f)
		}
	}
	if _, e := tread.ReadScheme(many(17) + " => )"); e != refused(api.ErrLong, 0) {
		t.Error("the predicates' error is ahead of the type's:", e)
	}
	for _, tail := range []string{" -> a", "", ", => a", " a => a"} {
		l := lexed(t, many(17)+tail)
		if got, i, e := tread.Preds(l, 0); e != taken || i != 0 || len(got) != 0 {
			t.Errorf("%q: %v, %d, %v", tail, got, i, e)
		}
		if _, e := tread.ReadScheme(many(17) + tail); e != refused(api.ErrSyntax, 4) {
			t.Errorf("%q: %v", tail, e)
		}
	}
	if s, e := tread.ReadScheme("E " + strings.Repeat("a", 32) + " => " + strings.TrimSpace(strings.Repeat("a ", 100))); e != taken || len(s.Preds) != 1 {
		t.Error(s, e)
	}
}

// Words: the predicates' own bracket is one of those that are open; behind the predicates none is.
func TestDeepPreds(t *testing.T) {
	for _, src := range []string{
		"E " + brackets(40, "a") + " => a", "(E " + brackets(39, "a") + ") => a", "(E " + brackets(39, "a") + ", O " + brackets(39, "b") + ") => a",
		"(E a) => " + brackets(40, "a"), "(E a, E " + brackets(39, "a") + ") => " + brackets(40, "a"),
	} {
		if s, e := tread.ReadScheme(src); e != taken || len(s.Preds) == 0 {
			t.Errorf("%.80q: %v, %v", src, s, e)
		}
	}
	for _, x := range []struct {
		src string
		e   api.At
	}{
		{"E " + brackets(41, "a") + " => a", refused(api.ErrDeep, 42)},
		{"(E " + brackets(40, "a") + ") => a", refused(api.ErrDeep, 42)},
		{"(E a, O " + brackets(40, "b") + ") => a", refused(api.ErrSyntax, 4)},
	} {
		if got, i, e := tread.Preds(lexed(t, x.src), 0); e != taken || i != 0 || len(got) != 0 {
			t.Errorf("%.80q: %v, %d, %v", x.src, got, i, e)
		}
		if s, e := tread.ReadScheme(x.src); e != x.e || !reflect.DeepEqual(s, api.Scheme{}) {
			t.Errorf("%.80q: %v, %v", x.src, s, e)
		}
	}
	if _, e := tread.ReadScheme("(E a) => " + brackets(41, "a")); e != refused(api.ErrDeep, 49) {
		t.Error(e)
	}
}

// P5.2: sources that are schemes: the chapter's example first.
func TestReadScheme(t *testing.T) {
	ea, ob := pred("E", a), pred("O", b)
	for _, x := range []struct {
		src  string
		want api.Scheme
	}{
		{"(E a, O b) => a -> L b", api.Scheme{Vars: []string{"a", "b"}, Preds: []api.Pred{ea, ob}, Type: fun(a, app(list, b))}},
		{"Int", api.Scheme{Type: integer}},
		{"E Int => Int", api.Scheme{Preds: []api.Pred{pred("E", integer)}, Type: integer}},
		{"a", api.Scheme{Vars: []string{"a"}, Type: a}},
		{"b -> a -> b", api.Scheme{Vars: []string{"b", "a"}, Type: fun(b, fun(a, b))}},
		{"c (b a) (a -> b)", api.Scheme{Vars: []string{"c", "b", "a"}, Type: app(app(c, app(b, a)), fun(a, b))}},
		{"E b => a -> b", api.Scheme{Vars: []string{"b", "a"}, Preds: []api.Pred{pred("E", b)}, Type: fun(a, b)}},
		{"(O b, E a) => c a b", api.Scheme{Vars: []string{"b", "a", "c"}, Preds: []api.Pred{ob, ea}, Type: app(app(c, a), b)}},
		{"(O b, O b, E a) => Int", api.Scheme{Vars: []string{"b", "a"}, Preds: []api.Pred{ob, ob, ea}, Type: integer}},
		{"E (c a b) => b a", api.Scheme{Vars: []string{"c", "a", "b"}, Preds: []api.Pred{pred("E", app(app(c, a), b))}, Type: app(b, a)}},
		{"E a -> b", api.Scheme{Vars: []string{"a", "b"}, Type: fun(app(con("E"), a), b)}},
		{"(E a) -> b", api.Scheme{Vars: []string{"a", "b"}, Type: fun(app(con("E"), a), b)}},
		{"E a", api.Scheme{Vars: []string{"a"}, Type: app(con("E"), a)}},
		{"(E a) b", api.Scheme{Vars: []string{"a", "b"}, Type: app(app(con("E"), a), b)}},
	} {
		if got, e := tread.ReadScheme(x.src); e != taken || !equalSchemes(got, x.want) {
			t.Errorf("%q: %v, %v", x.src, got, e)
		}
	}
}

// P5.2: sources that are no schemes.
func TestReadSchemeRefused(t *testing.T) {
	for _, x := range []struct {
		src string
		e   api.Errno
		at  int
	}{
		{"E a =>", api.ErrSyntax, 6}, {"E a => -> b", api.ErrSyntax, 7}, {"E a => b )", api.ErrSyntax, 9}, {"E a => (b", api.ErrSyntax, 9},
		{"E => a", api.ErrSyntax, 2}, {"e a => a", api.ErrSyntax, 4}, {"E a b => a", api.ErrSyntax, 6}, {"=> a", api.ErrSyntax, 0},
		{"(E a, O) => a", api.ErrSyntax, 4}, {"(E a, O b) -> a", api.ErrSyntax, 4}, {"() => a", api.ErrSyntax, 1}, {"(E a => a)", api.ErrSyntax, 5},
		{"((E a)) => a", api.ErrSyntax, 8}, {"E a => E a => a", api.ErrSyntax, 11}, {"a -> E b => b", api.ErrSyntax, 9}, {"(E a) => (O b) => b", api.ErrSyntax, 15},
		{"E a, O b => a", api.ErrSyntax, 3}, {"E a => 7", api.ErrSyntax, 7}, {"E a => a : b", api.ErrSyntax, 9},
		{"E a => a #", api.ErrChar, 9}, {"E => 2147483648", api.ErrNumber, 5}, {many(17) + " => " + strings.Repeat("n", 33), api.ErrLong, 89},
	} {
		if got, e := tread.ReadScheme(x.src); e != refused(x.e, x.at) || !reflect.DeepEqual(got, api.Scheme{}) {
			t.Errorf("%.80q: %v, %v, not %v at %d", x.src, got, e, x.e, x.at)
		}
	}
}

// P5.1: a scheme among tokens, and the place behind it.
func TestScheme(t *testing.T) {
	l := lexed(t, "f : (E a, O b) => b -> a ; g : L a = 7 ; E =>")
	for _, x := range []struct {
		i, to int
		vars  string
		preds int
		e     api.At
	}{
		{2, 13, "a b", 2, taken}, {10, 13, "b a", 0, taken}, {16, 18, "a", 0, taken}, {18, 0, "", 0, refused(api.ErrSyntax, 35)},
		{13, 0, "", 0, refused(api.ErrSyntax, 25)}, {3, 5, "a", 0, taken}, {21, 22, "", 0, taken}, {22, 0, "", 0, refused(api.ErrSyntax, 43)}, {23, 0, "", 0, refused(api.ErrSyntax, 45)},
	} {
		s, i, e := tread.Scheme(l, x.i)
		if e != x.e || i != x.to || strings.Join(s.Vars, " ") != x.vars || len(s.Preds) != x.preds || len(s.Kinds) != 0 || e != taken && !reflect.DeepEqual(s, api.Scheme{}) {
			t.Errorf("%d: %v, %d, %v", x.i, s, i, e)
		}
	}
}
