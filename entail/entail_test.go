package entail_test

import (
	"strings"
	"testing"

	"fugue/api"
	"fugue/classes"
	"fugue/entail"
	"fugue/read"
	"fugue/tread"
	"fugue/types"
)

// env is of a source; which names there are is not looked at.
func env(t *testing.T, src string) *classes.Env {
	t.Helper()
	p, at := read.Program(src)
	if at != (api.At{}) {
		t.Fatal(src, at)
	}
	return envOf(t, p)
}

func envOf(t *testing.T, p api.Program) *classes.Env {
	t.Helper()
	e, at := classes.New(p)
	if e == nil || at != (api.At{}) {
		t.Fatal(p, at)
	}
	return e
}

// ty is a type of a source; variables m, n are what is not known, ?1, ?2.
func ty(t *testing.T, src string) api.Type {
	t.Helper()
	x, at := tread.ReadType(src)
	if at != (api.At{}) {
		t.Fatal(src, at)
	}
	return types.Subst(x, []string{"m", "n"}, []api.Type{types.Meta(1), types.Meta(2)})
}

// preds are read out of a text: a class and a type each, points with a comma between them.
func preds(t *testing.T, src string) []api.Pred {
	t.Helper()
	var l []api.Pred
	for _, one := range strings.Split(src, ",") {
		if class, x, is := strings.Cut(strings.TrimSpace(one), " "); is {
			l = append(l, api.Pred{Class: class, Type: ty(t, x)})
		}
	}
	return l
}

func pred(t *testing.T, src string) api.Pred {
	t.Helper()
	return preds(t, src)[0]
}

// text is predicates in print.
func text(l []api.Pred) string {
	var all []string
	for _, p := range l {
		all = append(all, p.Class+" "+types.Print(p.Type))
	}
	return strings.Join(all, ", ")
}

// evid is evidence of a print.
func evid(t *testing.T, src string) api.Evid {
	t.Helper()
	v, rest := scan(src)
	if rest != "" || entail.Print(v) != src {
		t.Fatal(src, rest, v)
	}
	return v
}

func scan(src string) (api.Evid, string) {
	v := api.Evid{Form: 1 + strings.IndexByte("gsi", src[0])}
	src = src[1:]
	sign := 1
	if src[0] == '-' {
		sign, src = -1, src[1:]
	}
	for src != "" && src[0] >= '0' && src[0] <= '9' {
		v.N, src = v.N*10+sign*int(src[0]-'0'), src[1:]
	}
	if v.Form == api.VGiven {
		return v, src
	}
	for src = src[1:]; src[0] != ')'; src = strings.TrimPrefix(src, ", ") {
		var kid api.Evid
		kid, src = scan(src)
		v.Kids = append(v.Kids, kid)
	}
	return v, src[1:]
}

// world has classes O above N above E, and O right above E, too; S above none; and instances, by their places:
// 0 E Int, 1 E (L a), 2 E (P a b), 3 N Int, 4 O Int, 5 E (->), 6 E (W a), 7 S (L a), 8 X Int, 9 S (D a), 10 E (F a b).
const world = "class (N a, E a) => O a { } ; class E a => N a { } ; class E a { } ; class S a { } ;" +
	"instance E Int { } ; instance E a => E (L a) { } ; instance (E a, O b) => E (P a b) { } ; instance N Int { } ; instance O Int { } ;" +
	"instance E V { } ; instance E (W a) { } ; instance (S a, E a) => S (L a) { } ; instance X Int { } ; instance (S a, S a, X a) => S (D a) { } ;" +
	"instance (O b, E a, E b) => E (F a b) { }"

// P12.1: by which evidence a predicate holds; by none: ErrInst.
func TestBy(t *testing.T) {
	e := env(t, world)
	for _, x := range []struct{ given, p, want string }{
		// Instances.
		{"", "E Int", "i0()"}, {"", "N Int", "i3()"}, {"", "O Int", "i4()"}, {"", "E V", "i5()"},
		{"", "E (L Int)", "i1(i0())"}, {"", "E (L (L (L Int)))", "i1(i1(i1(i0())))"}, {"", "E (P Int Int)", "i2(i0(), i4())"},
		{"", "E (P (P (L V) Int) Int)", "i2(i2(i1(i5()), i4()), i4())"}, {"", "E (F V Int)", "i10(i4(), i5(), i0())"},
		// What an instance does not ask for need not hold.
		{"", "E (W a)", "i6()"}, {"", "E (W (L S))", "i6()"},
		// A class that is not there may have instances.
		{"", "X Int", "i8()"}, {"X Bool, S Bool", "S (D Bool)", ""},
		// No instance, too few types, too many.
		{"", "S Int", ""}, {"", "E Bool", ""}, {"", "O (L Int)", ""}, {"", "E L", ""}, {"", "E (L Int Int)", ""}, {"", "E (Int Int)", ""}, {"", "E (P Int)", ""},
		{"", "E (P Int (L Int))", ""}, {"", "E (L (L Bool))", ""}, {"", "E (Int -> Int)", ""}, {"", "X (L Int)", ""}, {"", "Z Int", ""}, {"", "S (L Int)", ""},
		// Variables, and what is not known, have no instance, whatever they are given.
		{"", "E a", ""}, {"", "E m", ""}, {"", "E (a Int)", ""}, {"", "E (m Int)", ""}, {"", "E (L a)", ""},
		// What is given, as it is.
		{"E a", "E a", "g0"}, {"E a", "E b", ""}, {"E m", "E m", "g0"}, {"E m", "E n", ""}, {"E a", "E m", ""}, {"S a, E a", "E a", "g1"}, {"E (a Int)", "E (a Int)", "g0"},
		{"E (a Int)", "E (a b)", ""}, {"E Bool", "E Bool", "g0"}, {"E (a -> b)", "E (a -> b)", "g0"}, {"E (a -> b)", "E (b -> a)", ""},
		// A way up from it, the shortest.
		{"N a", "E a", "s0(g0)"}, {"O a", "N a", "s0(g0)"}, {"O a", "E a", "s1(g0)"}, {"E a", "N a", ""}, {"E a", "O a", ""}, {"S a", "E a", ""},
		// The first one given, though another one needs no way, or there is an instance.
		{"O a, E a", "E a", "s1(g0)"}, {"E a, O a", "E a", "g0"}, {"N a, O a, E a", "E a", "s0(g0)"}, {"E b, N a", "E a", "s0(g1)"}, {"E a, E a", "E a", "g0"}, {"S a, O b, O a", "E a", "s1(g2)"},
		{"O Int", "E Int", "s1(g0)"}, {"E Int", "N Int", "i3()"}, {"O (L a)", "E (L a)", "s1(g0)"}, {"E (L Int)", "E (L Int)", "g0"},
		// What is given goes into instances.
		{"E a", "E (L a)", "i1(g0)"}, {"E (L a)", "E (L (L a))", "i1(g0)"}, {"E (L a), E a", "E (L a)", "g0"}, {"O a", "E (P a a)", "i2(s1(g0), g0)"}, {"O b, N a", "E (P (L a) b)", "i2(i1(s0(g1)), g0)"},
		{"S Int", "S (L Int)", "i7(g0, i0())"}, {"S (L b), E b", "S (L (L b))", "i7(g0, i1(g1))"}, {"E Bool", "S (L Bool)", ""}, {"S Int", "S (D Int)", "i9(g0, g0, i8())"},
		{"E a", "E (P a a)", ""}, {"O a", "E (P a b)", ""}, {"E m", "E (L m)", "i1(g0)"}, {"E L", "E L", "g0"}, {"E (L Int Int)", "E (L Int Int)", "g0"}, {"E (L L)", "E (L (L L))", "i1(g0)"},
		// Of a class that is not there there is no way up to itself.
		{"Z a", "Z a", ""}, {"X a", "X a", ""}, {"X Int", "X Int", "i8()"}, {"Z a, E a", "E a", "g1"},
	} {
		given, p := preds(t, x.given), pred(t, x.p)
		v, errno := entail.By(e, given, p)
		if x.want == "" {
			if errno != api.ErrInst || v.Form != 0 || v.N != 0 || v.Kids != nil {
				t.Error(x.given, "|", x.p, v, errno)
			}
			continue
		}
		if errno != api.OK || entail.Print(v) != x.want || !entail.Check(e, given, p, v) {
			t.Error(x.given, "|", x.p, entail.Print(v), x.want, errno)
		}
	}
}

// P12.1: a variable of a constructor's name is no constructor, and what is not known is none.
func TestForms(t *testing.T) {
	e := env(t, world)
	for _, x := range []api.Type{types.Var("Int"), {Form: api.TMeta, Name: "Int"}, {Form: api.TAll, Name: "Int", Args: []api.Type{types.Con("Int")}}, {Name: "Int"}, {}} {
		if v, errno := entail.By(e, nil, api.Pred{Class: "E", Type: x}); errno != api.ErrInst {
			t.Error(x, v)
		}
		if v, errno := entail.By(e, []api.Pred{{Class: "E", Type: types.Con("Int")}}, api.Pred{Class: "E", Type: x}); errno != api.ErrInst {
			t.Error(x, v)
		}
		if entail.Check(e, nil, api.Pred{Class: "E", Type: x}, evid(t, "i0()")) {
			t.Error(x)
		}
	}
}

// P12.1: functions' types are of a constructor, too.
func TestFunctions(t *testing.T) {
	a := types.Var("a")
	p := api.Program{Classes: []api.Class{{Name: "E"}}, Insts: []api.Inst{
		{Class: "E", Con: types.Arrow, Vars: []string{"b", "a"}, Preds: []api.Pred{{Class: "E", Type: a}}}, {Class: "E", Con: "Int"},
	}}
	e := envOf(t, p)
	if v, errno := entail.By(e, nil, pred(t, "E (a -> b -> Int)")); errno != api.OK || entail.Print(v) != "i0(i0(i1()))" {
		t.Error(v, errno)
	}
	if v, errno := entail.By(e, nil, pred(t, "E (Int -> b)")); errno != api.ErrInst {
		t.Error(v)
	}
	if l, errno := entail.Head(e, preds(t, "E (Int -> b)")); errno != api.OK || text(l) != "E b" {
		t.Error(l)
	}
}

// P12.2: what is evidence, though By would tell another one, and what is none.
func TestCheck(t *testing.T) {
	e := env(t, world)
	for _, x := range []struct {
		given, p, evid string
		is             bool
	}{
		{"E a", "E a", "g0", true}, {"E a, E a", "E a", "g1", true}, {"O a, E a", "E a", "g1", true}, {"E Int", "E Int", "g0", true}, {"E Int", "E Int", "i0()", true},
		{"E a", "E a", "g1", false}, {"E a", "E a", "g-1", false}, {"", "E a", "g0", false}, {"E a", "E b", "g0", false}, {"E a", "N a", "g0", false}, {"N a", "E a", "g0", false}, {"E m", "E n", "g0", false},
		// Given though the class is not there.
		{"Z a", "Z a", "g0", true}, {"Z a", "Y a", "g0", false},
		// Any way up; of each step the class is told by what is below.
		{"O a", "E a", "s1(g0)", true}, {"O a", "E a", "s0(s0(g0))", true}, {"O a", "N a", "s0(g0)", true}, {"O a", "E a", "s0(g0)", false}, {"O a", "N a", "s1(g0)", false}, {"O a", "E a", "s2(g0)", false}, {"O a", "E a", "s-1(g0)", false},
		{"O a", "E b", "s1(g0)", false}, {"O a", "O a", "s0(g0)", false}, {"E a", "E a", "s0(g0)", false}, {"E a, O a", "E a", "s1(g1)", true}, {"E a, O a", "E a", "s1(g0)", false}, {"Z a", "E a", "s0(g0)", false}, {"X Int", "E Int", "s0(i8())", false},
		{"O a", "E a", "s1()", false}, {"O a", "E a", "s1(g0, g0)", false}, {"O a", "E a", "s0(s0(s0(g0)))", false}, {"O a", "E a", "s0(s1(g0))", false}, {"N a", "E a", "s0(s0(g0))", false}, {"O a", "E a", "s1(g1)", false},
		{"", "E Int", "s0(i3())", true}, {"", "E Int", "s1(i4())", true}, {"", "N Int", "s0(i4())", true}, {"", "E Int", "s0(s0(i4()))", true}, {"", "E V", "s0(i3())", false}, {"", "E Int", "s1(i3())", false}, {"", "E a", "s0(i3())", false},
		// Instances: of the class, of the constructor, given as many types as they have Vars, and as many Kids as Preds.
		{"", "N Int", "i3()", true}, {"", "N Int", "i0()", false}, {"", "E Int", "i3()", false}, {"", "E Int", "i5()", false}, {"", "E Int", "i11()", false}, {"", "E Int", "i-1()", false}, {"", "E Int", "i0(i0())", false},
		{"", "E (L Int)", "i1(i0())", true}, {"", "E (L Int)", "i1()", false}, {"", "E (L Int)", "i1(i0(), i0())", false}, {"", "E (L Int)", "i0()", false}, {"", "E (L Int)", "i1(i3())", false}, {"", "E (L Int)", "i1(s0(i3()))", true},
		{"", "E (L Bool)", "i1(i0())", false}, {"", "E (L Int Int)", "i1(i0())", false}, {"", "E L", "i1(i0())", false}, {"", "E (Int Int)", "i0()", false}, {"E a", "E (a Int)", "i1(g0)", false}, {"E L", "E (L L)", "i1(g0)", true},
		{"", "E (P V Int)", "i2(i5(), i4())", true}, {"", "E (P V Int)", "i2(i4(), i5())", false}, {"", "E (P V Int)", "i2(i5())", false}, {"", "E (P V Int)", "i2(i5(), i0())", false}, {"", "E (P V Int)", "i2(i0(), i4())", false},
		{"O a, N b", "E (P a a)", "i2(s0(s0(g0)), g0)", true}, {"O a, N b", "E (P b a)", "i2(s0(g1), g0)", true}, {"O a, N b", "E (P b a)", "i2(s0(g0), g0)", false}, {"E (L a), O (P a b)", "E (P (L a) (P a b))", "i2(g0, g1)", true},
		{"", "E (W a)", "i6()", true}, {"E a", "E (W a)", "i6(g0)", false}, {"", "X Int", "i8()", true}, {"", "E Int", "i8()", false}, {"O a", "O (L a)", "i1(g0)", false}, {"S Int", "S (D Int)", "i9(g0, g0, i8())", true}, {"S Int", "S (D Int)", "i9(g0, i8(), g0)", false},
	} {
		if entail.Check(e, preds(t, x.given), pred(t, x.p), evid(t, x.evid)) != x.is {
			t.Error(x.given, "|", x.p, x.evid, !x.is)
		}
	}
}

// P12.2: forms that are none, and Kids where there are none.
func TestCheckForms(t *testing.T) {
	e, given := env(t, world), preds(t, "E Int, O Int")
	for _, v := range []api.Evid{{}, {N: 1}, {Form: 4}, {Form: -1}, {Form: api.VGiven, Kids: []api.Evid{{Form: api.VGiven}}}, {Form: api.VGiven, Kids: []api.Evid{{}}}, {Kids: []api.Evid{{Form: api.VGiven}}}} {
		if entail.Check(e, given, given[0], v) || entail.Check(e, given, given[0], api.Evid{Form: api.VSuper, N: 1, Kids: []api.Evid{v}}) || entail.Check(e, given, pred(t, "E (L Int)"), api.Evid{Form: api.VInst, N: 1, Kids: []api.Evid{v}}) {
			t.Error(v)
		}
	}
	if !entail.Check(e, given, given[0], api.Evid{Form: api.VGiven, Kids: []api.Evid{}}) {
		t.Error("no Kids are none")
	}
	// There is no instance of no names at a place where there is none.
	none := api.Pred{Type: types.Con("")}
	for _, n := range []int{-1, e.Len(), e.Len() + 1, -1 << 63} {
		if entail.Check(e, given, none, api.Evid{Form: api.VInst, N: n}) {
			t.Error(n)
		}
	}
}

// P12.2: where a class above is not there, evidence goes up to it, but By does not.
func TestUpToNone(t *testing.T) {
	e := env(t, "class (Z a, E a) => O a { } ; class E a { }")
	given, p := preds(t, "O a"), pred(t, "Z a")
	if !entail.Check(e, given, p, evid(t, "s0(g0)")) || entail.Check(e, given, pred(t, "Y a"), evid(t, "s0(g0)")) || entail.Check(e, given, pred(t, "E a"), evid(t, "s0(s0(g0))")) {
		t.Error("check")
	}
	if v, errno := entail.By(e, given, p); errno != api.ErrInst {
		t.Error(v)
	}
}

// P12.3: heads, and those left over.
func TestHead(t *testing.T) {
	e := env(t, world)
	for _, x := range []struct{ l, head, simple string }{
		{"", "", ""}, {"E Int", "", ""}, {"O Int, N Int, X Int", "", ""}, {"E (W a)", "", ""},
		{"E a", "E a", "E a"}, {"E m", "E m", "E m"}, {"E (a Int)", "E (a Int)", "E (a Int)"}, {"E (m Int a)", "E (m Int a)", "E (m Int a)"}, {"Z a", "Z a", "Z a"}, {"X a", "X a", "X a"},
		{"E (L a)", "E a", "E a"}, {"E (L (L (b Int)))", "E (b Int)", "E (b Int)"}, {"E (P a b)", "E a, O b", "E a, O b"}, {"E (P a a)", "E a, O a", "O a"}, {"E (F a a)", "O a, E a", "O a"}, {"E (F a b)", "O b, E a, E b", "O b, E a"},
		{"S (L (L a))", "S a, E a", "S a, E a"}, {"S (D a)", "S a, X a", "S a, X a"}, {"S (D (L m)), X a", "", "-"}, {"E (P Int m)", "O m", "O m"},
		// Once each, where it first comes.
		{"E a, E b, E a", "E a, E b", "E a, E b"}, {"E (L a), E b, E a", "E a, E b", "E a, E b"}, {"E (P b a), O a, E b, E (L b)", "E b, O a", "E b, O a"}, {"E (P (L b) (a b)), E b, O b", "E b, O (a b), O b", "O (a b), O b"},
		{"E a, E m, E n, E m, E a", "E a, E m, E n", "E a, E m, E n"}, {"Z a, Z a", "Z a", "Z a"}, {"E (a Int), E (a b), E a", "E (a Int), E (a b), E a", "E (a Int), E (a b), E a"},
		// What holds by the others is left out, in whatever row.
		{"E a, N a, O a", "E a, N a, O a", "O a"}, {"O a, N a, E a", "O a, N a, E a", "O a"}, {"N a, O a, E a", "N a, O a, E a", "O a"}, {"N a, O b, E a, S a", "N a, O b, E a, S a", "N a, O b, S a"}, {"N m, E n, E m", "N m, E n, E m", "N m, E n"},
		{"E (a Int), O (a Int), N (a b)", "E (a Int), O (a Int), N (a b)", "O (a Int), N (a b)"}, {"E a, O Int", "E a", "E a"}, {"Z a, O a, X a", "Z a, O a, X a", "Z a, O a, X a"},
		// No instance for one of them, or for what one asks for; too few types, too many.
		{"E Bool", "", "-"}, {"S Int", "", "-"}, {"E a, S Int, E b", "", "-"}, {"E a, O (L a)", "", "-"}, {"E (L (P a Bool))", "", "-"}, {"E L", "", "-"}, {"E (L a b)", "", "-"}, {"E (Int a)", "", "-"}, {"Z Int", "", "-"}, {"E (a -> b)", "", "-"}, {"E (P a (L b))", "", "-"},
	} {
		want := api.OK
		if x.simple == "-" {
			want, x.simple = api.ErrInst, ""
		}
		head, errno := entail.Head(e, preds(t, x.l))
		if errno != want || text(head) != readable(t, x.head) || errno != api.OK && head != nil {
			t.Error(x.l, "|", text(head), errno)
		}
		simple, errno := entail.Simple(e, preds(t, x.l))
		if errno != want || text(simple) != readable(t, x.simple) || errno != api.OK && simple != nil {
			t.Error(x.l, "|", text(simple), errno)
		}
	}
}

// readable is predicates of a text, as text tells them.
func readable(t *testing.T, src string) string {
	t.Helper()
	return text(preds(t, src))
}

// P12.3: two that differ in names of TAlls are one; the first one stays.
func TestOnce(t *testing.T) {
	e := env(t, world)
	of := func(name, body string) api.Pred {
		return api.Pred{Class: "E", Type: types.App(types.Var("f"), types.All(name, types.Fun(types.Var("c"), types.Var(body))))}
	}
	for _, x := range []struct {
		l    []api.Pred
		want string
	}{
		{[]api.Pred{of("a", "a"), of("b", "b")}, "E f (forall a. a -> c)"}, {[]api.Pred{of("a", "b"), of("b", "b")}, "E f (forall a. b -> c), E f (forall b. b -> c)"},
		{[]api.Pred{of("c", "c"), of("a", "c")}, "E f (forall c. c -> c), E f (forall a. c -> c)"}, {[]api.Pred{{Class: "S", Type: of("a", "a").Type}, of("b", "b")}, "S f (forall a. a -> c), E f (forall b. b -> c)"},
	} {
		if l, errno := entail.Head(e, x.l); errno != api.OK || text(l) != x.want {
			t.Error(text(l), errno)
		}
	}
	f, a, b, c := types.Var("f"), types.Var("a"), types.Var("b"), types.Var("c")
	both := types.Fun(types.All("b", types.Fun(b, a)), types.All("c", types.Fun(c, a)))
	for i, x := range []struct {
		one, other api.Type
		is         bool
	}{
		{types.All("a", types.All("b", a)), types.All("c", types.All("a", c)), true}, {types.All("a", types.All("b", a)), types.All("a", types.All("b", b)), false},
		{types.All("a", types.All("a", a)), types.All("b", types.All("c", c)), true}, {types.All("a", types.All("a", a)), types.All("b", types.All("c", b)), false},
		{types.All("a", types.All("b", types.Fun(b, a))), types.All("b", types.All("a", types.Fun(a, b))), true}, {types.All("a", types.All("b", types.Fun(b, a))), types.All("a", types.All("b", types.Fun(a, b))), false},
		{types.All("a", a), types.All("a", types.Meta(0)), false}, {types.All("a", a), a, false}, {a, types.All("a", a), false}, {types.All("a", b), types.All("a", c), false}, {types.All("a", types.Con("a")), types.All("a", a), false},
		{types.All("a", both), types.All("f", types.Subst(both, []string{"a"}, []api.Type{f})), true}, {types.All("a", both), types.All("b", both), false}, {types.Fun(types.All("a", a), a), types.Fun(types.All("b", b), b), false}, {types.Fun(types.All("a", a), a), types.Fun(types.All("b", b), a), true},
	} {
		l := []api.Pred{{Class: "E", Type: types.App(f, x.one)}, {Class: "E", Type: types.App(f, x.other)}}
		if heads, _ := entail.Head(e, l); (len(heads) == 1) != x.is || types.Same(x.one, x.other) != x.is {
			t.Error(i, text(heads))
		}
	}
	if l, errno := entail.Head(e, []api.Pred{{Class: "E", Type: types.All("a", types.Var("a"))}}); errno != api.ErrInst || l != nil {
		t.Error(l)
	}
}

// P12.4: any evidence in print.
func TestPrint(t *testing.T) {
	g := api.Evid{Form: api.VGiven, N: 12}
	for want, v := range map[string]api.Evid{
		"g12": g, "g-3": {Form: api.VGiven, N: -3}, "g1": {Form: api.VGiven, N: 1, Kids: []api.Evid{g, g}}, "g0": {Form: api.VGiven},
		"s0(g12)": {Form: api.VSuper, Kids: []api.Evid{g}}, "s7()": {Form: api.VSuper, N: 7}, "s-1(g12, g12)": {Form: api.VSuper, N: -1, Kids: []api.Evid{g, g}},
		"i0()": {Form: api.VInst}, "i10(g12)": {Form: api.VInst, N: 10, Kids: []api.Evid{g}}, "i1(i0(), s2(g12), g12)": {Form: api.VInst, N: 1, Kids: []api.Evid{{Form: api.VInst}, {Form: api.VSuper, N: 2, Kids: []api.Evid{g}}, g}},
		"i5()": {N: 5}, "i6(g12)": {Form: 4, N: 6, Kids: []api.Evid{g}}, "i-9223372036854775808(i9223372036854775807())": {Form: -3, N: -1 << 63, Kids: []api.Evid{{N: 1<<63 - 1}}},
	} {
		if got := entail.Print(v); got != want {
			t.Error(got, want)
		}
	}
}

// What the document says in its examples.
func TestExamples(t *testing.T) {
	e := env(t, "class E a => O a { } ; class E a { } ; instance E Int { } ; instance E a => E (L a) { }")
	if v, _ := entail.By(e, nil, pred(t, "E (L Int)")); entail.Print(v) != "i1(i0())" {
		t.Error(v)
	}
	if v, _ := entail.By(e, preds(t, "O b"), pred(t, "E b")); entail.Print(v) != "s0(g0)" {
		t.Error(v)
	}
}
