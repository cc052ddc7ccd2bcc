package read_test

import (
	"reflect"
	"strconv"
	"strings"
	"testing"

	"fugue/api"
	"fugue/read"
)

// refusal is a source, and what is told of it.
type refusal struct {
	src string
	e   api.Errno
	at  int
}

func refuses(t *testing.T, l []refusal) {
	t.Helper()
	for _, x := range l {
		if p, at := read.Program(x.src); at != refused(x.e, x.at) || !reflect.DeepEqual(p, api.Program{}) {
			t.Errorf("%.120q: %v, %v, not %v at %d", x.src, p, at, x.e, x.at)
		}
	}
}

func takes(t *testing.T, l ...string) {
	t.Helper()
	for _, src := range l {
		if _, at := read.Program(src); at != taken {
			t.Errorf("%.120q: %v", src, at)
		}
	}
}

// rows is so many of a text, in which # stands for the number of each, with between between.
func rows(n int, text, between string) string {
	var l []string
	for i := range n {
		l = append(l, strings.ReplaceAll(text, "#", strconv.Itoa(i)))
	}
	return strings.Join(l, between)
}

func brackets(n int, s string) string { return strings.Repeat("(", n) + s + strings.Repeat(")", n) }

// P6.1: what lex refuses comes first, wherever it is; what chapter 5 refuses is told as it tells it.
func TestRefusedBelow(t *testing.T) {
	refuses(t, []refusal{
		{") $", api.ErrChar, 2}, {"f = 2147483648", api.ErrNumber, 4}, {"= " + strings.Repeat("n", 33), api.ErrLong, 2}, {strings.Repeat(" ", 4001), api.ErrLong, 0},
		{"f : a -> ; f = 1", api.ErrSyntax, 9}, {"f : ; f = 1", api.ErrSyntax, 4}, {"f : 1", api.ErrSyntax, 4}, {"f : (a", api.ErrSyntax, 6}, {"f : (E a, O) => a", api.ErrSyntax, 8},
		{"f : E a => ) ; f = 1", api.ErrSyntax, 11}, {"f : E a b => a", api.ErrSyntax, 10}, {"f = x : (", api.ErrSyntax, 9}, {"f = x :", api.ErrSyntax, 7}, {"f = 1 : (->)", api.ErrSyntax, 9},
		{"data T = A (a , b)", api.ErrSyntax, 14}, {"data T = A ()", api.ErrSyntax, 12}, {"data T = A (b", api.ErrSyntax, 13},
		{"f : " + brackets(41, "a"), api.ErrDeep, 44}, {"f = 1 : " + brackets(41, "a"), api.ErrDeep, 48}, {"data T = A " + brackets(41, "a"), api.ErrDeep, 51},
		{"f : (" + rows(17, "E a", ", ") + ") => )", api.ErrLong, 4}, {"f = 1 : (" + rows(17, "E a", ", ") + ") => )", api.ErrLong, 8},
		{"class (" + rows(17, "E a", ", ") + ") => )", api.ErrLong, 6}, {"instance (" + rows(17, "E a", ", ") + ") => )", api.ErrLong, 9},
		{"class K k { f : E k => }", api.ErrSyntax, 23}, {"class K k { f : (" + rows(17, "E a", ", ") + ") => a }", api.ErrLong, 16},
	})
	takes(t, "f : "+brackets(40, "a")+" ; f = 1", "f : ("+rows(16, "E a", ", ")+") => a ; f = 1", "class ("+rows(16, "E a", ", ")+") => K a { }",
		"class K k { f : ("+rows(16, "E k", ", ")+") => k }", "instance ("+rows(16, "E a", ", ")+") => K (L a) { }", "data T = A "+brackets(40, "a"))
}

// P6.1: the first token that may not stand there, in each declaration.
func TestSyntaxOfDeclarations(t *testing.T) {
	refuses(t, []refusal{
		{")", api.ErrSyntax, 0}, {"F", api.ErrSyntax, 0}, {"1 = 2", api.ErrSyntax, 0}, {"in = 2", api.ErrSyntax, 0}, {"f = 1 ; , ; g = 2", api.ErrSyntax, 8}, {"f = 1 }", api.ErrSyntax, 6}, {"}", api.ErrSyntax, 0}, {"_ = 1", api.ErrSyntax, 0},
		{"f", api.ErrSyntax, 1}, {"f ;", api.ErrSyntax, 2}, {"f x", api.ErrSyntax, 3}, {"f x y 1", api.ErrSyntax, 6}, {"f X = 1", api.ErrSyntax, 2}, {"f _ = 1", api.ErrSyntax, 2}, {"f (x) = 1", api.ErrSyntax, 2}, {"f x : a", api.ErrSyntax, 4}, {"f = = 1", api.ErrSyntax, 4}, {"f = ;", api.ErrSyntax, 4}, {"f -> 1", api.ErrSyntax, 2}, {"f => 1", api.ErrSyntax, 2},
		{"f = 1 = 2", api.ErrSyntax, 6}, {"f : a = 1", api.ErrSyntax, 6}, {"f = g data", api.ErrSyntax, 6}, {"f : a g : b", api.ErrSyntax, 8}, {"f , g : a", api.ErrSyntax, 2},
		{"data", api.ErrSyntax, 4}, {"data t = A", api.ErrSyntax, 5}, {"data T A = B", api.ErrSyntax, 7}, {"data T a (b) = B", api.ErrSyntax, 9}, {"data T ;", api.ErrSyntax, 7}, {"data T =", api.ErrSyntax, 8}, {"data T = ;", api.ErrSyntax, 9}, {"data T = a", api.ErrSyntax, 9}, {"data T = A |", api.ErrSyntax, 12}, {"data T = A | | B", api.ErrSyntax, 13}, {"data T = A | b", api.ErrSyntax, 13}, {"data T = A 1", api.ErrSyntax, 11}, {"data T = A -> B", api.ErrSyntax, 11}, {"data T = A data", api.ErrSyntax, 11}, {"data T = (A)", api.ErrSyntax, 9}, {"data T = A = B", api.ErrSyntax, 11}, {"data T = A _", api.ErrSyntax, 11},
		{"class", api.ErrSyntax, 5}, {"class k", api.ErrSyntax, 6}, {"class K", api.ErrSyntax, 7}, {"class K K", api.ErrSyntax, 8}, {"class K (k) { }", api.ErrSyntax, 8}, {"class K k", api.ErrSyntax, 9}, {"class K k j { }", api.ErrSyntax, 10}, {"class K k = { }", api.ErrSyntax, 10}, {"class K k {", api.ErrSyntax, 11}, {"class K k { f }", api.ErrSyntax, 14}, {"class K k { f g : a }", api.ErrSyntax, 14}, {"class K k { F : a }", api.ErrSyntax, 12}, {"class K k { f : a", api.ErrSyntax, 17}, {"class K k { f : a ) ", api.ErrSyntax, 18}, {"class K k { f : a g : b }", api.ErrSyntax, 20}, {"class K k { data }", api.ErrSyntax, 12}, {"class K k { } f = 1", api.ErrSyntax, 14}, {"class => K k { }", api.ErrSyntax, 6}, {"class E k => { }", api.ErrSyntax, 13}, {"class E k => F k => K k { }", api.ErrSyntax, 17},
		{"instance", api.ErrSyntax, 8}, {"instance e", api.ErrSyntax, 9}, {"instance E", api.ErrSyntax, 10}, {"instance E a { }", api.ErrSyntax, 11}, {"instance E {", api.ErrSyntax, 11}, {"instance E L a { }", api.ErrSyntax, 13}, {"instance E (a) { }", api.ErrSyntax, 12}, {"instance E () { }", api.ErrSyntax, 12}, {"instance E (L", api.ErrSyntax, 13}, {"instance E (L A) { }", api.ErrSyntax, 14}, {"instance E (L (a)) { }", api.ErrSyntax, 14}, {"instance E ((L a)) { }", api.ErrSyntax, 12}, {"instance E (L a", api.ErrSyntax, 15}, {"instance E (L a { }", api.ErrSyntax, 16}, {"instance E Int", api.ErrSyntax, 14}, {"instance E Int ;", api.ErrSyntax, 15}, {"instance E Int { F = 1 }", api.ErrSyntax, 17}, {"instance E Int { f = 1", api.ErrSyntax, 22}, {"instance E Int { f = }", api.ErrSyntax, 21}, {"instance E Int { f x }", api.ErrSyntax, 21}, {"instance E Int { } ; }", api.ErrSyntax, 21}, {"instance E (a -> b) { }", api.ErrSyntax, 12},
	})
}

// P6.1: predicates that do not stand there with their => are none: then a name must stand where they began.
func TestPredicatesThatDoNotStand(t *testing.T) {
	refuses(t, []refusal{
		{"class (E a, F a) K a { }", api.ErrSyntax, 6}, {"class (E a) K a { }", api.ErrSyntax, 6}, {"class (E a, F) => K a { }", api.ErrSyntax, 6}, {"class E => K a { }", api.ErrSyntax, 8}, {"class E " + brackets(41, "a") + " => K a { }", api.ErrSyntax, 8},
		{"instance (E a, F a) K Int { }", api.ErrSyntax, 9}, {"instance () => K Int { }", api.ErrSyntax, 9}, {"instance E (L a) -> K Int { }", api.ErrSyntax, 17},
	})
}

// P6.1: a class's predicates are of its variable alone, an instance's of variables: told at the class's name, ahead of the brace.
func TestPredicatesOfOthers(t *testing.T) {
	refuses(t, []refusal{
		{"class S b => E a { f : }", api.ErrSyntax, 13}, {"class S b => E a )", api.ErrSyntax, 13}, {"class (S a, S b) => E a { }", api.ErrSyntax, 20}, {"class S (L a) => E a { }", api.ErrSyntax, 17}, {"class S (a b) => E a { }", api.ErrSyntax, 17}, {"class S A => E a { }", api.ErrSyntax, 13}, {"class S b => E A { }", api.ErrSyntax, 15}, {"class S b => e", api.ErrSyntax, 13}, {"class S b => E", api.ErrSyntax, 14},
		{"instance S Int => E Int { }", api.ErrSyntax, 18}, {"instance S Int => E Int )", api.ErrSyntax, 18}, {"instance (S a, S (L a)) => E (L a) { }", api.ErrSyntax, 27}, {"instance S (a b) => E Int { }", api.ErrSyntax, 20}, {"instance S (a -> b) => E Int { }", api.ErrSyntax, 23}, {"instance S Int => E (L", api.ErrSyntax, 22}, {"instance S Int => E a { }", api.ErrSyntax, 20},
	})
	takes(t, "class (S a, S (a)) => E a { }", "instance (S a, T ((b))) => E Int { }")
}

// P6.1: the first token that may not stand there, in expressions.
func TestSyntaxOfExpressions(t *testing.T) {
	for _, x := range []struct {
		src string
		at  int
	}{
		{"", 0}, {" ", 1}, {")", 0}, {"()", 1}, {"(", 1}, {"(x", 2}, {"(x y", 4}, {"x )", 2}, {"f ()", 3}, {"(f x", 4}, {"(x) )", 4}, {"_", 0}, {"f _", 2}, {"x , y", 2}, {"x = y", 2}, {"x ; y", 2}, {"x -> y", 2}, {"{ }", 0}, {"data", 0}, {"x in", 2}, {"x of", 2}, {"=> x", 0}, {": a", 0},
		{"\\", 1}, {"\\ -> x", 2}, {"\\ X -> x", 2}, {"\\ x", 3}, {"\\ x = x", 4}, {"\\ x Y -> x", 4}, {"\\ _ -> x", 2}, {"\\ x 1 -> x", 4}, {"\\ x ->", 6}, {"\\ x -> )", 7}, {"\\ (x) -> x", 2}, {"f \\ x -> x", 2}, {"f let { } in x", 2}, {"f case x of { y -> y }", 2}, {"\\ x => x", 4},
		{"let", 3}, {"let x = 1 in x", 4}, {"let {", 5}, {"let { )", 6}, {"let { X = 1 } in x", 6}, {"let { x } in x", 8}, {"let { x = } in x", 10}, {"let { x = 1", 11}, {"let { x = 1 in x", 12}, {"let { x = 1 ) in x", 12}, {"let { x = 1 }", 13}, {"let { x = 1 } x", 14}, {"let { x = 1 } in", 16}, {"let { x = 1 } in )", 17}, {"let { x = 1 y = 2 } in x", 14}, {"let { data } in x", 6}, {"let { x y : a } in x", 10}, {"let { } ; in x", 8}, {"let { x = 1 , y = 2 } in x", 12},
		{"case", 4}, {"case of", 5}, {"case x", 6}, {"case x {", 7}, {"case x of", 9}, {"case x of x", 10}, {"case x of {", 11}, {"case x of { }", 12}, {"case x of { ; ; }", 16}, {"case x of { x }", 14}, {"case x of { x = 1 }", 14}, {"case x of { x -> }", 17}, {"case x of { x -> 1", 18}, {"case x of { x -> 1 )", 19}, {"case x of { x y -> 1 }", 14}, {"case x of { 1 y -> 1 }", 14}, {"case x of { _ y -> 1 }", 14}, {"case x of { (C) y -> 1 }", 16}, {"case x of { (C y -> 1 }", 17}, {"case x of { () -> 1 }", 13}, {"case x of { C -> 1 } }", 21}, {"case x of { C -> 1 , D -> 2 }", 19}, {"case x of { C (let) -> 1 }", 15}, {"case x of { \\ x -> 1 }", 12}, {"case x of { x -> 1 -> 2 }", 19},
		{"x : a : b", 6}, {"(x : a", 6}, {"x : a , b", 6}, {"x :", 3}, {"\\ x -> x : a : b", 13}, {"let { } in x : a ; y", 17}, {"x y : a = b", 8},
	} {
		if e, at := read.Exp(x.src); at != refused(api.ErrSyntax, x.at) || !reflect.DeepEqual(e, api.Exp{}) {
			t.Errorf("%q: %v, %v, not at %d", x.src, e, at, x.at)
		}
	}
}

// P6.1: the first token that may not stand there, in patterns.
func TestSyntaxOfPatterns(t *testing.T) {
	for _, x := range []refusal{
		{"", api.ErrSyntax, 0}, {"  ", api.ErrSyntax, 2}, {"x y", api.ErrSyntax, 2}, {"1 C", api.ErrSyntax, 2}, {"_ _", api.ErrSyntax, 2}, {"(", api.ErrSyntax, 1}, {")", api.ErrSyntax, 0}, {"()", api.ErrSyntax, 1}, {"(C", api.ErrSyntax, 2}, {"(C) x", api.ErrSyntax, 4}, {"C (x y)", api.ErrSyntax, 5}, {"C (D", api.ErrSyntax, 4}, {"C )", api.ErrSyntax, 2}, {"C -> 1", api.ErrSyntax, 2}, {"C let", api.ErrSyntax, 2}, {"\\ x", api.ErrSyntax, 0}, {"C x : a", api.ErrSyntax, 4}, {"C , D", api.ErrSyntax, 2}, {"case", api.ErrSyntax, 0},
		{") $", api.ErrChar, 2}, {") 2147483648", api.ErrNumber, 2}, {strings.Repeat("x", 4001), api.ErrLong, 0}, {strings.Repeat("x", 4000), api.ErrLong, 0},
	} {
		if p, at := read.Pat(x.src); at != refused(x.e, x.at) || !reflect.DeepEqual(p, api.Pat{}) {
			t.Errorf("%.80q: %v, %v, not %v at %d", x.src, p, at, x.e, x.at)
		}
	}
}

const (
	eight = "a b c d e f g h"
	nine  = eight + " i"
)

// P6.1: eight of a name's things; the ninth's refusal comes behind the last of them, ahead of all that follows.
func TestLongRows(t *testing.T) {
	takes(t, "data T "+eight+" = A "+eight+" | B "+eight, "f "+eight+" = 1", "f = \\ "+eight+" -> 1", "f = \\ "+eight+" -> \\ "+eight+" -> 1", "instance E (T "+eight+") { f "+eight+" = 1 }", "f = let { f "+eight+" = 1 } in 1",
		"f x = \\ "+eight+" -> 1", "f = g "+nine, "f : T "+nine+" ; f = case x of { C "+nine+" -> 1 }")
	refuses(t, []refusal{
		{"data T " + nine + " = )", api.ErrLong, 5}, {"data T " + nine + " )", api.ErrLong, 5}, {"data T " + nine, api.ErrLong, 5}, {"data T " + nine + nine + " = A", api.ErrLong, 5},
		{"data T = A " + nine + " )", api.ErrLong, 9}, {"data T = A | B " + nine + " | )", api.ErrLong, 13}, {"data T = A " + eight + " (L a)", api.ErrLong, 9}, {"data T = A " + nine + " (", api.ErrSyntax, 30}, {"data T = A " + nine + " " + brackets(41, "a"), api.ErrDeep, 69},
		{"f " + nine + " = )", api.ErrLong, 0}, {"f " + nine + " )", api.ErrLong, 0}, {" f " + nine, api.ErrLong, 1}, {"f " + nine + " : a", api.ErrLong, 0}, {"f = let { g " + nine + " = ) } in )", api.ErrLong, 10}, {"instance E Int { g " + nine + " = )", api.ErrLong, 17},
		{"f = \\ " + nine + " -> )", api.ErrLong, 4}, {"f = \\ " + nine + " )", api.ErrLong, 4}, {"f = \\ " + nine, api.ErrLong, 4}, {"f x = g (\\ " + nine + " -> 1)", api.ErrLong, 9},
		{"instance E (T " + nine + ") )", api.ErrLong, 9}, {"instance E (T " + nine + ")", api.ErrLong, 9}, {"instance E (T " + nine + " { }", api.ErrSyntax, 32}, {"instance E (T " + nine, api.ErrSyntax, 31}, {"instance S a => E (T " + nine + ") { )", api.ErrLong, 16},
		{"instance S Int => E (T " + nine + ") { }", api.ErrLong, 18},
	})
}

// P6.1: sixteen constructors, or methods; behind the seventeenth the refusal.
func TestManyConstructors(t *testing.T) {
	cons, sigs := rows(16, "C# a", " | "), rows(16, "m# : a", " ; ")
	takes(t, "data T = "+cons, "class K k { "+sigs+" }", "class K k { ; "+sigs+" ;; }")
	refuses(t, []refusal{
		{"data T = " + cons + " | D )", api.ErrLong, 5}, {"data T = " + cons + " | D", api.ErrLong, 5}, {"data T = " + cons + " | )", api.ErrSyntax, 12 + len(cons)}, {"data T = " + cons + " | D (", api.ErrSyntax, 15 + len(cons)},
		{"data T = " + cons + " | D " + nine, api.ErrLong, 12 + len(cons)}, {"data T = " + cons + " | D | E | )", api.ErrLong, 5},
		{"class K k { " + sigs + " ; m : a )", api.ErrLong, 6}, {"class K k { " + sigs + " ; m : a }", api.ErrLong, 6}, {"class K k { " + sigs + " ; m : )", api.ErrSyntax, 19 + len(sigs)}, {"class K k { " + sigs + " ; )", api.ErrSyntax, 15 + len(sigs)},
		{"class E j => K j { " + sigs + " ; m : a", api.ErrLong, 13},
	})
}

// P6.1: sixty declarations, sigs or binds, alternatives; empty ones are none. The next one is refused at its first token, whatever follows.
func TestManyDeclarations(t *testing.T) {
	binds, pairs, alts := rows(60, "f# = 1", ";"), rows(30, "f#:a;f#=1", ";;"), rows(60, "#->1", " ; ")
	takes(t, binds, pairs, ";;"+binds+";;;", "f = let {"+binds+"} in 1", "f = let {;;"+pairs+";;} in 1", "instance E Int {"+binds+";}", "f = case 1 of {"+alts+"}", "f = case 1 of { ; "+alts+" ;; }")
	first := "f = let {"
	refuses(t, []refusal{
		{binds + ";g )", api.ErrLong, len(binds) + 1}, {binds + ";;data )", api.ErrLong, len(binds) + 2}, {binds + ";class", api.ErrLong, len(binds) + 1}, {binds + "; instance", api.ErrLong, len(binds) + 2}, {pairs + ";g", api.ErrLong, len(pairs) + 1}, {binds + " )", api.ErrSyntax, len(binds) + 1}, {binds + " ; )", api.ErrSyntax, len(binds) + 3},
		{first + binds + ";g )", api.ErrLong, len(first+binds) + 1}, {first + pairs + ";;g )", api.ErrLong, len(first+pairs) + 2}, {first + binds + ";} )", api.ErrSyntax, len(first+binds) + 3}, {first + binds + ";data", api.ErrSyntax, len(first+binds) + 1},
		{"instance E Int {" + binds + ";g )", api.ErrLong, 17 + len(binds)}, {"f = case 1 of {" + alts + ";_ )", api.ErrLong, 16 + len(alts)}, {"f = case 1 of {" + alts + ";(", api.ErrLong, 16 + len(alts)}, {"f = case 1 of {" + alts + ";let", api.ErrSyntax, 16 + len(alts)},
		{rows(61, "f#:a", ";"), api.ErrLong, len(rows(60, "f#:a", ";")) + 1}, {rows(60, "f#:a", ";"), api.ErrNone, 0},
	})
	takes(t, "f = let {"+binds+"} in 1 ; "+rows(59, "g# = 1", " ; "))
}

// P6.1: forty expressions around another one, by all that goes further within.
func TestDeepExpressions(t *testing.T) {
	for _, x := range []struct{ ahead, behind string }{
		{"(", ")"}, {"\\x->", ""}, {"let{}in ", ""}, {"let{x=", "}in x"}, {"let{x y=", "}in x"}, {"case ", " of{_->1}"}, {"case 1 of{_->", "}"}, {"f(", ")"}, {"(", ")x"}, {"(", "):a"}, {"f x y (", ")"}, {"case 1 of{_->1;C(D _)->", "}"}, {"let{f:a;f=", "}in 1"}, {"g(\\x->f(", "))"},
	} {
		steps := 1
		if strings.HasPrefix(x.ahead, "g") {
			steps = 3
		}
		n := 40 / steps
		ahead := strings.Repeat(x.ahead, n) + strings.Repeat("(", 40-steps*n)
		behind := strings.Repeat(")", 40-steps*n) + strings.Repeat(x.behind, n)
		for _, within := range []string{"1", "f x", "x : a", "f x y : E a => a", "C"} {
			if _, at := read.Exp(ahead + within + behind); at != taken {
				t.Errorf("%.80q: %v", ahead+within+behind, at)
			}
			for _, first := range []string{"h = ", "h y z = ", "instance E Int { h y = ", "instance E Int { h = "} {
				if _, at := read.Program(first + ahead + "(" + within); at != refused(api.ErrDeep, len(first+ahead)+1) {
					t.Errorf("%q%.80q: %v", first, ahead+"(("+within, at)
				}
			}
			takes(t, "h = "+ahead+within+behind, "h y z = "+ahead+within+behind, "instance E Int { h y = "+ahead+within+behind+"}")
		}
		for within, bad := range map[string]refusal{
			"(1": {e: api.ErrDeep, at: 1}, "((1": {e: api.ErrDeep, at: 1}, "(\\ )": {e: api.ErrDeep, at: 1}, "(let": {e: api.ErrDeep, at: 1}, "(case": {e: api.ErrDeep, at: 1}, "f ( C": {e: api.ErrDeep, at: 4}, "\\ x -> 1": {e: api.ErrDeep, at: 7}, "let { } in 1": {e: api.ErrDeep, at: 11},
			"let { x = 1 } in )": {e: api.ErrDeep, at: 10}, "let { x y = 1 )": {e: api.ErrDeep, at: 12}, "case x": {e: api.ErrDeep, at: 5}, "let { x : a": {e: api.ErrSyntax, at: 11}, "()": {e: api.ErrSyntax, at: 1}, "(": {e: api.ErrSyntax, at: 1}, "case of": {e: api.ErrSyntax, at: 5}, "\\ x )": {e: api.ErrSyntax, at: 4}, "\\ " + nine + " -> 1": {e: api.ErrLong},
		} {
			want := refused(bad.e, len(ahead)+bad.at)
			if e, at := read.Exp(ahead + within); at != want || !reflect.DeepEqual(e, api.Exp{}) {
				t.Errorf("%.100q %q: %v, not %v", ahead, within, at, want)
			}
		}
	}
	takes(t, "f = "+brackets(40, "1")+" "+brackets(40, "x")+" "+brackets(40, "f x"), "f = "+brackets(40, "1")+" ; g = "+brackets(40, "1"))
	refuses(t, []refusal{{"f = " + strings.Repeat("(", 3990), api.ErrDeep, 45}, {"f = " + brackets(40, "x") + " " + brackets(41, "y"), api.ErrDeep, 127}, {"f = \\ x -> " + brackets(40, "y"), api.ErrDeep, 51}})
}

// P6.1: forty brackets of a pattern; those of expressions around it are not counted, nor those of others ahead.
func TestDeepPatterns(t *testing.T) {
	for _, src := range []string{brackets(40, "x"), "C " + brackets(40, "D _") + " " + brackets(40, "1"), brackets(39, "C (x) (y)")} {
		if _, at := read.Pat(src); at != taken {
			t.Errorf("%.80q: %v", src, at)
		}
		takes(t, "f = "+brackets(38, "case x of { "+src+" -> "+brackets(1, "1")+" ; "+src+" -> 2 }"))
	}
	for _, x := range []refusal{
		{brackets(41, "x"), api.ErrDeep, 40}, {strings.Repeat("(", 4000), api.ErrDeep, 40}, {"C " + brackets(40, "x") + " " + brackets(41, "y"), api.ErrDeep, 124}, {brackets(40, "C (x)"), api.ErrDeep, 42}, {strings.Repeat("(", 40) + ")", api.ErrSyntax, 40}, {strings.Repeat("(", 40), api.ErrSyntax, 40}, {strings.Repeat("(", 41), api.ErrDeep, 40},
		{strings.Repeat("C (", 41), api.ErrDeep, 122},
	} {
		if p, at := read.Pat(x.src); at != refused(x.e, x.at) || !reflect.DeepEqual(p, api.Pat{}) {
			t.Errorf("%.80q: %v, %v, not %v at %d", x.src, p, at, x.e, x.at)
		}
	}
	refuses(t, []refusal{{"f = case 1 of { " + brackets(41, "x") + " -> 1 }", api.ErrDeep, 56}})
}

// P6.1: sigs without a bind, or with another's: the first in the row of sigs, at the moment that is told.
func TestSigs(t *testing.T) {
	refuses(t, []refusal{
		{"f : a", api.ErrNone, 0}, {"g = 1 ; f : a", api.ErrNone, 8}, {"f : a ; f : a", api.ErrNone, 0}, {"f = 1 ; f : a ; f : b", api.ErrTwice, 16}, {"f : a ; f : b ; f = 1", api.ErrTwice, 8}, {"f : a ; f : b ; f = 1 ; f = 2", api.ErrTwice, 8}, {"g : a ; f : a ; f : a ; f = 1", api.ErrNone, 0}, {"f : a ; f : a ; g : a ; f = 1", api.ErrTwice, 8},
		{"f : a ; )", api.ErrSyntax, 8}, {"f : a ; f : a ; f = )", api.ErrSyntax, 20}, {"f : a ; data T", api.ErrSyntax, 14}, {"F : a", api.ErrSyntax, 0},
		{"f = let { g : a } in )", api.ErrNone, 10}, {"f = let { g : a } )", api.ErrNone, 10}, {"f = let { g : a }", api.ErrNone, 10}, {"f = let { g : a )", api.ErrSyntax, 16}, {"f = let { g : a ; ", api.ErrSyntax, 18}, {"f = let { g = 1 ; g : a ; g : b } )", api.ErrTwice, 26}, {"f = let { f : a } in 1", api.ErrNone, 10}, {"g : a ; f = let { g = 1 } in 1", api.ErrNone, 0}, {"g : a ; f = let { h : b } in 1", api.ErrNone, 18}, {"f = let { g : a ; h = let { g = 1 } in 1 } in 1", api.ErrNone, 10}, {"f = let { g : a ; h = let { k : b } in 1 } in 1", api.ErrNone, 28},
		{"f : a ; f : b ; f = let { g = 1 } in )", api.ErrSyntax, 37}, {"m : a ; class K k { m : a }", api.ErrNone, 0}, {"m : a ; instance K Int { m = 1 }", api.ErrNone, 0}, {"m : a ; f m = m", api.ErrNone, 0},
	})
	takes(t, "f : a ; f = 1 ; f = 2", "f = let { f : a ; f = 1 } in 1 ; f : b", "f = 1 ; f : a", "f : a ; f = let { g : b ; g = f } in g")
}
