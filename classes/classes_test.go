package classes_test

import (
	"reflect"
	"slices"
	"strings"
	"testing"

	"fugue/api"
	"fugue/classes"
	"fugue/read"
)

// program is a source's; which names there are is not looked at.
func program(t *testing.T, src string) api.Program {
	t.Helper()
	p, at := read.Program(src)
	if at != (api.At{}) {
		t.Fatal(src, at)
	}
	return p
}

// env is what New tells of a program that it takes.
func env(t *testing.T, p api.Program) *classes.Env {
	t.Helper()
	e, at := classes.New(p)
	if e == nil || at != (api.At{}) {
		t.Fatal(p, at)
	}
	return e
}

func of(t *testing.T, src string) *classes.Env {
	t.Helper()
	return env(t, program(t, src))
}

// held holds what New tells of sources against an error, at the place that is marked by #.
func held(t *testing.T, e api.Errno, sources ...string) {
	t.Helper()
	for _, marked := range sources {
		ahead, behind, is := strings.Cut(marked, "#")
		if is != (e != api.OK) || strings.Contains(behind, "#") {
			t.Fatal("no mark, or one too many:", marked)
		}
		want := api.At{}
		if is {
			want = api.At{Errno: e, At: len(ahead)}
		}
		if env, got := classes.New(program(t, ahead+behind)); got != want || (env == nil) != is {
			t.Errorf("%s: %v, not %v", marked, got, want)
		}
	}
}

// P11.1: what is not refused.
func TestTaken(t *testing.T) {
	held(t, api.OK,
		"", "x = 1 ; data T = A", "class A a { }", "class A a { m : a } ; class B b { }",
		"class A a => B a { } ; class A a { }", "class A a { } ; class A a => B a { }",
		// Ways that part and meet are no loop.
		"class (B a, C a) => A a { } ; class D a => B a { } ; class D a => C a { } ; class D a { }",
		"class (B a, B a) => A a { } ; class B a { }",
		// A name that is no class's is above none.
		"class A a => B a { }", "class (A a, B a) => C a { } ; class C a => D a { }",
		// Of two classes of one name the first one counts.
		"class A a { } ; class A a => A a { }", "class A a { } ; class B a => A a { } ; class A a => B a { }",
		// Instances of other classes, of other constructors, of classes that there are not.
		"class A a { } ; class B a { } ; instance A Int { } ; instance B Int { } ; instance A Bool { } ; instance B (T a) { }",
		"instance A Int { } ; instance A Bool { }",
		// What an instance has to have above it, in whatever row.
		"class B a => A a { } ; class B a { } ; instance A Int { } ; instance B Int { }",
		"instance B Int { } ; instance A Int { } ; class B a { } ; class B a => A a { }",
		"class B a => A a { } ; class B a { } ; instance B Int { }",
		"class B a => A a { } ; instance A Int { } ; instance B Int { }",
		"class (B a, C a) => A a { } ; instance C Int { } ; instance A Int { } ; instance B Int { }",
		// The predicates, the variables, and what an instance gives are not looked at.
		"class B a => A a { m : a } ; class B a { n : a } ; instance A (T a) { x = 1 } ; instance (A a, A b) => B (T a b) { }",
		// The second class of its name asks for nothing.
		"class A a { } ; class B a => A a { } ; instance A Int { }",
	)
}

// P11.1: a class that is above itself.
func TestLoops(t *testing.T) {
	held(t, api.ErrSuper,
		"class A a => #A a { }", "class (B a, A a) => #A a { } ; class B a { }", "class (B a, A a) => #A a { }",
		"class B a => #A a { } ; class A a => B a { }",
		"class C a => #B a { } ; class A a => C a { } ; class B a => A a { }",
		// Not at what is only below a loop, or only above one, or between two.
		"class A a => D a { } ; class B a => #A a { } ; class A a => B a { }",
		"class D a { } ; class (D a, B a) => #A a { } ; class A a => B a { }",
		"class D a => C a { } ; class (A a, C a) => #A a { } ; class D a => D a { }",
		"class D a => C a { } ; class D a { } ; class E a => #E a { } ; class (C a, E a) => A a { }",
		"class C a => E a { } ; class (D a, E a) => #D a { } ; class C a => C a { }",
		// Two loops that share a class, and two that share none.
		"class (B a, C a) => #A a { } ; class A a => B a { } ; class A a => C a { }",
		"class D a => #C a { } ; class C a => D a { } ; class B a => A a { } ; class A a => B a { }",
		// Of two classes of one name the first one counts: that one is above itself, this one is not.
		"class A a => #A a { } ; class A a { }", "class B a => #A a { } ; class A a { } ; class A a => B a { } ; class B a { }",
	)
}

// P11.1: a second instance of a class and a constructor.
func TestOverlaps(t *testing.T) {
	held(t, api.ErrOverlap,
		"class A a { } ; instance A Int { } ; instance #A Int { }",
		"instance A Int { } ; instance #A Int { }",
		"instance A Int { } ; instance A Bool { } ; instance B Int { } ; instance #A Int { } ; instance A Int { }",
		"instance A Int { } ; instance A Bool { } ; instance #A Bool { } ; instance A Int { }",
		"instance A (T a) { } ; instance #A (T b c) { x = 1 }", "instance E a => A (T a) { } ; instance #A T { }",
		// It is refused for this, not for what it lacks.
		"class B a => A a { } ; class B a { } ; instance B Int { } ; instance A Int { } ; instance #A Int { }",
	)
}

// P11.1: an instance without one above it.
func TestLacks(t *testing.T) {
	held(t, api.ErrSuper,
		"class B a => A a { } ; class B a { } ; instance #A Int { }",
		"instance #A Int { } ; class B a { } ; class B a => A a { }",
		"class B a => A a { } ; instance #A Int { }",
		"class B a => A a { } ; class B a { } ; instance #A Int { } ; instance B Bool { } ; instance B (T a) { }",
		"class B a => A a { } ; class B a { } ; instance B Bool { } ; instance A Bool { } ; instance #A Int { } ; instance A T { }",
		"class (B a, C a) => A a { } ; instance B Int { } ; instance #A Int { }",
		"class (B a, C a) => A a { } ; instance C Int { } ; instance #A Int { }",
		// Each asks for what is right above it.
		"class B a => A a { } ; class C a => B a { } ; class C a { } ; instance A Int { } ; instance #B Int { }",
		"class B a => A a { } ; class C a => B a { } ; class C a { } ; instance #A Int { } ; instance C Int { }",
		// The first class of its name counts.
		"class B a => A a { } ; class A a { } ; instance #A Int { }",
	)
}

func class(name string, at int, supers ...string) api.Class {
	return api.Class{Name: name, At: at, Supers: supers}
}

func inst(class, con string, at int) api.Inst { return api.Inst{Class: class, Con: con, At: at} }

// P11.1: of several refusals the one at the least place, and of those at one place the one that is named first.
func TestLeastPlace(t *testing.T) {
	loop, overlap, lacks := []api.Class{class("A", 5, "A")}, []api.Inst{inst("B", "Int", 0), inst("B", "Int", 6)}, inst("C", "Int", 7)
	low := class("C", 1, "D")
	for i, x := range []struct {
		classes []api.Class
		insts   []api.Inst
		want    api.At
	}{
		{append(loop, low), append(overlap, lacks), api.At{Errno: api.ErrSuper, At: 5}},
		{[]api.Class{class("A", 9, "A"), low}, append(overlap, lacks), api.At{Errno: api.ErrOverlap, At: 6}},
		{[]api.Class{class("A", 9, "A"), low}, append(overlap, inst("C", "Int", 2)), api.At{Errno: api.ErrSuper, At: 2}},
		// At one place.
		{[]api.Class{class("A", 6, "A")}, overlap, api.At{Errno: api.ErrSuper, At: 6}},
		{[]api.Class{low}, append([]api.Inst{inst("C", "Int", 6)}, overlap...), api.At{Errno: api.ErrOverlap, At: 6}},
		{[]api.Class{low}, append(overlap, inst("C", "Int", 6)), api.At{Errno: api.ErrOverlap, At: 6}},
		{[]api.Class{low}, []api.Inst{inst("C", "Int", 3), inst("C", "Int", 3)}, api.At{Errno: api.ErrOverlap, At: 3}},
		// By places, not by the row; below 0, and at 0, too.
		{[]api.Class{class("A", 9, "B"), class("B", 3, "C"), class("C", 4, "A")}, nil, api.At{Errno: api.ErrSuper, At: 3}},
		{nil, []api.Inst{inst("A", "Int", 9), inst("A", "Int", 8), inst("A", "Int", 2), inst("A", "Int", 5)}, api.At{Errno: api.ErrOverlap, At: 2}},
		{nil, []api.Inst{inst("A", "Int", 1), inst("A", "Int", 9)}, api.At{Errno: api.ErrOverlap, At: 9}},
		{[]api.Class{class("A", 0, "A"), class("B", -3, "B")}, nil, api.At{Errno: api.ErrSuper, At: -3}},
		{[]api.Class{class("A", 0, "A"), class("B", 3, "B")}, nil, api.At{Errno: api.ErrSuper, At: 0}},
		{[]api.Class{low}, []api.Inst{inst("C", "T", 8), inst("C", "Int", 4), inst("C", "Bool", 6)}, api.At{Errno: api.ErrSuper, At: 4}},
	} {
		if e, at := classes.New(api.Program{Classes: x.classes, Insts: x.insts}); e != nil || at != x.want {
			t.Error(i, at)
		}
	}
}

const much = "class (B a, C a) => A a { m : a ; n : a } ; class D a => B a { } ; class (E a, D a) => C a { o : a ; m : a ; o : a } ; class D a { p : a } ; class D a => E a { n : a } ; " +
	"instance D Int { p = 1 } ; instance D (T a) { } ; instance E Int { } ; instance X Int { }"

// P11.2: classes.
func TestClass(t *testing.T) {
	p := program(t, much+" ; class Y a => C a { q : a }")
	e := env(t, p)
	for _, want := range p.Classes[:5] {
		if got, is := e.Class(want.Name); !is || !reflect.DeepEqual(got, want) {
			t.Error(want.Name, got)
		}
	}
	for _, name := range []string{"", "X", "Y", "a", "Int", "AA", "m"} {
		if got, is := e.Class(name); is || !reflect.DeepEqual(got, api.Class{}) {
			t.Error(name, got)
		}
	}
}

// P11.2: methods.
func TestMethod(t *testing.T) {
	e := of(t, much+" ; class Y a => C a { q : a ; p : a }")
	for _, x := range []struct {
		name, class string
		place       int
		is          bool
	}{
		{"m", "A", 0, true}, {"n", "A", 1, true}, {"o", "C", 0, true}, {"p", "D", 0, true},
		// Classes are asked in their row, be there another one of their name or not.
		{"q", "C", 0, true},
		{"", "", 0, false}, {"x", "", 0, false}, {"A", "", 0, false}, {"mm", "", 0, false},
	} {
		if class, place, is := e.Method(x.name); class != x.class || place != x.place || is != x.is {
			t.Error(x.name, class, place, is)
		}
	}
}

// P11.3: what is above a class.
func TestAbove(t *testing.T) {
	for _, x := range []struct{ src, name, want string }{
		{much, "A", "A B D C E"}, {much, "B", "B D"}, {much, "C", "C E D"}, {much, "D", "D"}, {much, "E", "E D"},
		{much, "X", ""}, {much, "", ""}, {"", "A", ""},
		{"class B a => A a { } ; class C a => B a { } ; class C a { }", "A", "A B C"},
		{"class B a => A a { } ; class C a => B a { } ; class C a { }", "B", "B C"},
		// A name that is no class's is not told, and there is nothing above it.
		{"class (X a, B a, Y a) => A a { } ; class (Y a, X a) => B a { }", "A", "A B"},
		{"class X a => A a { }", "X", ""}, {"class X a => A a { }", "A", "A"},
		{"class (B a, C a, B a) => A a { } ; class B a { } ; class C a { }", "A", "A B C"},
		// What is far above stands with the first one that it is above of.
		{"class (B a, C a) => A a { } ; class C a => B a { } ; class D a => C a { } ; class D a { }", "A", "A B C D"},
		{"class (C a, B a) => A a { } ; class C a => B a { } ; class D a => C a { } ; class D a { }", "A", "A C D B"},
		{"class (D a, B a) => A a { } ; class (C a, D a) => B a { } ; class C a { } ; class E a => D a { } ; class C a => E a { }", "A", "A D E C B"},
		// The first class of its name counts.
		{"class B a => A a { } ; class B a { } ; class C a => A a { } ; class C a => B a { } ; class C a { }", "A", "A B"},
	} {
		if got := strings.Join(of(t, x.src).Above(x.name), " "); got != x.want {
			t.Errorf("%s: above %s: %q, not %q", x.src, x.name, got, x.want)
		}
	}
}

// P11.4: the way up.
func TestPath(t *testing.T) {
	const lattice = "class (B a, C a, D a) => A a { } ; class (X a, E a) => B a { } ; class (F a, E a) => C a { } ; class (E a, F a) => D a { } ; " +
		"class G a => E a { } ; class (G a, G a) => F a { } ; class H a => G a { } ; class H a { } ; class (H a, B a, A a) => I a { }"
	for _, x := range []struct {
		src, from, to string
		want          []int
		is            bool
	}{
		{"class B a => A a { } ; class C a => B a { } ; class C a { }", "A", "C", []int{0, 0}, true},
		{lattice, "A", "A", nil, true}, {lattice, "H", "H", nil, true},
		{lattice, "A", "B", []int{0}, true}, {lattice, "A", "D", []int{2}, true}, {lattice, "B", "E", []int{1}, true},
		// Of ways that are as short the one with the least first place, and so on.
		{lattice, "A", "E", []int{0, 1}, true}, {lattice, "A", "F", []int{1, 0}, true}, {lattice, "A", "G", []int{0, 1, 0}, true},
		{lattice, "F", "G", []int{0}, true}, {lattice, "C", "G", []int{0, 0}, true},
		// The shortest one, be another one's places less.
		{lattice, "I", "H", []int{0}, true}, {lattice, "I", "E", []int{1, 1}, true}, {lattice, "I", "F", []int{2, 1, 0}, true}, {lattice, "I", "C", []int{2, 1}, true},
		{"class (B a, C a) => A a { } ; class C a => B a { } ; class C a { }", "A", "C", []int{1}, true},
		{"class (B a, C a) => A a { } ; class D a => B a { } ; class E a => D a { } ; class E a => C a { } ; class E a { }", "A", "E", []int{1, 0}, true},
		// Down, across, and to and from what is no class.
		{lattice, "B", "A", nil, false}, {lattice, "H", "A", nil, false}, {lattice, "B", "C", nil, false}, {lattice, "E", "F", nil, false},
		{lattice, "B", "X", nil, false}, {lattice, "A", "X", nil, false}, {lattice, "X", "A", nil, false}, {lattice, "X", "X", nil, false}, {lattice, "", "", nil, false}, {lattice, "", "A", nil, false},
		// The first class of its name counts.
		{"class B a => A a { } ; class (C a, B a) => A a { } ; class C a { } ; class B a { }", "A", "B", []int{0}, true},
		{"class B a => A a { } ; class (C a, B a) => A a { } ; class C a { } ; class B a { }", "A", "C", nil, false},
	} {
		if got, is := of(t, x.src).Path(x.from, x.to); !slices.Equal(got, x.want) || is != x.is {
			t.Errorf("%s: from %s to %s: %v, %v", x.src, x.from, x.to, got, is)
		}
	}
}

// P11.5: instances.
func TestInsts(t *testing.T) {
	p := program(t, much)
	e := env(t, p)
	if e.Len() != 4 || of(t, "").Len() != 0 || of(t, "class A a { }").Len() != 0 {
		t.Error(e.Len())
	}
	for i, want := range p.Insts {
		if !reflect.DeepEqual(e.At(i), want) {
			t.Error(i, e.At(i))
		}
	}
	for _, i := range []int{-1, 4, 5, -1 << 63, 1<<63 - 1} {
		if !reflect.DeepEqual(e.At(i), api.Inst{}) {
			t.Error(i, e.At(i))
		}
	}
	for _, x := range []struct {
		class, con string
		n          int
		is         bool
	}{
		{"D", "Int", 0, true}, {"D", "T", 1, true}, {"E", "Int", 2, true}, {"X", "Int", 3, true},
		{"E", "T", 0, false}, {"A", "Int", 0, false}, {"Int", "D", 0, false}, {"D", "", 0, false}, {"", "Int", 0, false}, {"DI", "nt", 0, false},
	} {
		if n, is := e.Inst(x.class, x.con); n != x.n || is != x.is {
			t.Error(x.class, x.con, n, is)
		}
	}
}

// A name may be any text, where it is not out of a source.
func TestAnyNames(t *testing.T) {
	e := env(t, api.Program{
		Classes: []api.Class{{Name: "x", Supers: []string{"y", "", "\xff"}}, {Name: "", Supers: []string{" "}, Methods: []api.Sig{{Name: ""}}}, {Name: " ", Supers: []string{"\xff"}}, {Name: "\xff"}},
		Insts:   []api.Inst{{}, inst(" ", "", 1), inst("\xff", "", 2)},
	})
	if l := e.Above("x"); !slices.Equal(l, []string{"x", "", " ", "\xff"}) {
		t.Errorf("%q", l)
	}
	for _, x := range []struct {
		from, to string
		want     []int
	}{{"", " ", []int{0}}, {"", "\xff", []int{0, 0}}, {"x", " ", []int{1, 0}}, {"x", "\xff", []int{2}}, {"", "", nil}} {
		if l, is := e.Path(x.from, x.to); !is || !slices.Equal(l, x.want) {
			t.Errorf("%q %q: %v", x.from, x.to, l)
		}
	}
	if n, is := e.Inst("", ""); n != 0 || !is {
		t.Error(n, is)
	}
	if class, place, is := e.Method(""); class != "" || place != 0 || !is {
		t.Error(class, place, is)
	}
	if c, is := e.Class(""); !is || len(c.Methods) != 1 {
		t.Error(c)
	}
}
