package kinds_test

import (
	"reflect"
	"slices"
	"strings"
	"testing"

	"fugue/api"
	"fugue/kinds"
)

// of is a kind, written out: it leads from these.
func of(from ...api.Kind) api.Kind { return api.Kind{From: from} }

// chain is the kind of types, from which one leads, from which one leads, and so on.
func chain(depth int) api.Kind {
	k := of()
	for range depth {
		k = of(k)
	}
	return k
}

// some is all kinds up to a depth of which each leads from at most so many things.
func some(depth, most int) []api.Kind {
	if depth == 0 {
		return []api.Kind{of()}
	}
	below := some(depth-1, most)
	all, rows := []api.Kind{of()}, []api.Kind{of()}
	for range most {
		var longer []api.Kind
		for _, k := range rows {
			for _, b := range below {
				longer = append(longer, of(append(slices.Clone(k.From), b)...))
			}
		}
		rows = longer
		all = append(all, rows...)
	}
	return all
}

// spoil overwrites a kind's memory, at every depth, its spare room, too.
func spoil(k api.Kind) {
	for i := range k.From {
		spoil(k.From[i])
	}
	for i := range k.From[:cap(k.From)] {
		k.From[:cap(k.From)][i] = chain(7)
	}
}

// roomy is a kind whose lists have spare room, at every depth, which holds something.
func roomy(k api.Kind) api.Kind {
	from := make([]api.Kind, len(k.From), len(k.From)+3)
	for i := range k.From {
		from[i] = roomy(k.From[i])
	}
	for i := range 3 {
		from[:cap(from)][len(from)+i] = chain(3)
	}
	return api.Kind{From: from}
}

// room tells whether the spare room of roomy's kind is as it was.
func room(k api.Kind) bool {
	for i, x := range k.From[:cap(k.From)] {
		if i < len(k.From) && !room(x) || i >= len(k.From) && !reflect.DeepEqual(x, chain(3)) {
			return false
		}
	}
	return true
}

// equal is Same by the document's words, written another way: nil and empty lists are one.
func equal(a, b api.Kind) bool {
	if len(a.From) != len(b.From) {
		return false
	}
	for i := range a.From {
		if !equal(a.From[i], b.From[i]) {
			return false
		}
	}
	return true
}

// P3.1: the kind of types, and what leads to a kind.
func TestStarAndArrow(t *testing.T) {
	if !equal(kinds.Star(), of()) {
		t.Error(kinds.Star())
	}
	for _, x := range []struct{ from, to, want api.Kind }{
		{of(), of(), of(of())},
		{of(), of(of()), of(of(), of())},
		{of(of()), of(), of(of(of()))},
		{of(of()), of(of()), of(of(of()), of())},
		{of(of(), of()), of(of(of()), of()), of(of(of(), of()), of(of()), of())},
		{chain(39), chain(40), of(chain(39), chain(39))},
	} {
		if got := kinds.Arrow(x.from, x.to); !equal(got, x.want) {
			t.Errorf("%v, %v: %v, not %v", x.from, x.to, got, x.want)
		}
	}
}

// P3.1: the first thing, and the kind of the others.
func TestSplit(t *testing.T) {
	for _, x := range []struct {
		k, first, others api.Kind
		is               bool
	}{
		{of(), of(), of(), false},
		{api.Kind{From: []api.Kind{}}, of(), of(), false},
		{of(of()), of(), of(), true},
		{of(of(of())), of(of()), of(), true},
		{of(of(), of(of())), of(), of(of(of())), true},
		{of(of(of()), of(), of(of())), of(of()), of(of(), of(of())), true},
		{chain(40), chain(39), of(), true},
	} {
		first, others, is := kinds.Split(x.k)
		if is != x.is || !equal(first, x.first) || !equal(others, x.others) {
			t.Errorf("%v: %v, %v, %v", x.k, first, others, is)
		}
	}
}

// P3.1: Split takes apart what Arrow puts together, of all small kinds.
func TestSplitOfArrow(t *testing.T) {
	all := some(2, 2)
	for _, a := range all {
		for _, b := range all {
			if x, y, is := kinds.Split(kinds.Arrow(a, b)); !is || !equal(x, a) || !equal(y, b) {
				t.Errorf("%v, %v: %v, %v, %v", a, b, x, y, is)
			}
		}
	}
}

// P3.1: all small kinds, held against one another.
func TestSame(t *testing.T) {
	all := append(some(2, 3), chain(39), chain(40), of(chain(39), of()))
	for i, a := range all {
		for j, b := range all {
			if got := kinds.Same(a, b); got != (i == j) || got != equal(a, b) {
				t.Errorf("%v, %v: %v", a, b, got)
			}
		}
	}
	empty := api.Kind{From: []api.Kind{}}
	if !kinds.Same(empty, of()) || !kinds.Same(of(), empty) || !kinds.Same(of(empty), of(of())) {
		t.Error("nil and empty lists are one")
	}
}

// R4: what is answered shares no memory with what was handed in, and that is left as it was.
func TestKindsInMemoryOfTheirOwn(t *testing.T) {
	for _, k := range some(2, 2) {
		for _, b := range some(2, 2) {
			from, to := roomy(k), roomy(b)
			got := kinds.Arrow(from, to)
			if !equal(from, k) || !equal(to, b) || !room(from) || !room(to) {
				t.Fatalf("Arrow changes %v, %v", k, b)
			}
			spoil(from)
			spoil(to)
			if x, y, is := kinds.Split(got); !is || !equal(x, k) || !equal(y, b) {
				t.Fatalf("Arrow keeps memory of %v, %v: %v", k, b, got)
			}
		}
		whole := roomy(k)
		first, others, is := kinds.Split(whole)
		if !equal(whole, k) || !room(whole) {
			t.Fatalf("Split changes %v", k)
		}
		spoil(whole)
		if is && !equal(kinds.Arrow(first, others), k) {
			t.Fatalf("Split keeps memory of %v: %v, %v", k, first, others)
		}
		spoil(first)
		if is && !equal(others, of(k.From[1:]...)) {
			t.Fatalf("what Split of %v tells shares memory: %v", k, others)
		}
	}
	twice := of(of(of()))
	got := kinds.Arrow(twice, twice)
	spoil(got.From[0])
	if !equal(api.Kind{From: got.From[1:]}, of(of(of()))) {
		t.Errorf("what Arrow tells shares memory: %v", got)
	}
}

var prints = []struct {
	k     api.Kind
	print string
}{
	{of(), "*"},
	{of(of()), "* -> *"},
	{of(of(), of()), "* -> * -> *"},
	{of(of(of())), "(* -> *) -> *"},
	{of(of(of()), of()), "(* -> *) -> * -> *"},
	{of(of(), of(of())), "* -> (* -> *) -> *"},
	{of(of(of()), of(of())), "(* -> *) -> (* -> *) -> *"},
	{of(of(of(), of())), "(* -> * -> *) -> *"},
	{of(of(of(of()))), "((* -> *) -> *) -> *"},
	{of(of(of(of()), of(), of(of())), of()), "((* -> *) -> * -> (* -> *) -> *) -> * -> *"},
}

// P3.2: kinds in print, and back.
func TestPrintAndRead(t *testing.T) {
	for _, x := range prints {
		k := roomy(x.k)
		if got := kinds.Print(k); got != x.print || !equal(k, x.k) || !room(k) {
			t.Errorf("%v: %q, not %q", x.k, got, x.print)
		}
		if got, e := kinds.Read(x.print); e != api.OK || !equal(got, x.k) {
			t.Errorf("%q: %v, %v", x.print, got, e)
		}
	}
	if got := kinds.Print(api.Kind{From: []api.Kind{{From: []api.Kind{}}}}); got != "* -> *" {
		t.Errorf("empty lists: %q", got)
	}
}

// P3.2: what is printed is read as it was, and no two kinds have one print.
func TestPrintsAreApart(t *testing.T) {
	seen := map[string]bool{}
	for _, k := range append(some(3, 2), chain(39), chain(40), of(make([]api.Kind, 5000)...)) {
		p := kinds.Print(k)
		if got, e := kinds.Read(p); e != api.OK || !equal(got, k) {
			t.Fatalf("%v is printed %q, which is %v, %v", k, p, got, e)
		}
		if seen[p] {
			t.Fatalf("two kinds are printed %q", p)
		}
		seen[p] = true
	}
}

// P3.2: texts that are no print of any kind.
func TestReadRefuses(t *testing.T) {
	for _, s := range []string{
		"", " ", "**", "* *", "*\n", " *", "* ", "*\x00", "\xff", "x", "Star",
		"->", " -> ", "* ->", "* -> ", "-> *", " -> *", "*->*", "* ->*", "*-> *", "*  -> *", "* ->  *", "* - > *", "* => *",
		"* -> * ", "* -> *\n", "* -> * ->", "* -> * -> ", "* -> -> *", "*\t->\t*",
		"()", "(", ")", "(*", "*)", "(*)", "((*))", "(*) -> *", "* -> (*)", "* -> (*) -> *", "() -> *",
		"(* -> *)", "((* -> *))", "((* -> *)) -> *", "(* -> (* -> *)) -> *", "* -> (* -> *)", "(* -> *) -> (* -> *)",
		"(* -> *) ->", "(* -> *) -> ", "(* -> *)-> *", "(* -> *) * -> *", "(* -> *)(* -> *) -> *", "( * -> *) -> *", "(* -> * ) -> *",
		"(* -> *", "* -> *)", "(* -> *) -> *)", "((* -> *) -> *", "(* -> *)) -> *", "(* -> *]",
	} {
		if k, e := kinds.Read(s); e != api.ErrSyntax || len(k.From) != 0 {
			t.Errorf("%q: %v, %v", s, k, e)
		}
	}
}

// P3.2: all short rows of pieces are read, or refused, as the words say.
func TestReadAllShort(t *testing.T) {
	is := map[string]bool{"*": true, "* -> *": true, "* -> * -> *": true, "* -> * -> * -> *": true, "(* -> *) -> *": true}
	var each func(s string, more int)
	each = func(s string, more int) {
		k, e := kinds.Read(s)
		switch {
		case !is[s]:
			if e != api.ErrSyntax || len(k.From) != 0 {
				t.Fatalf("%q is no print, but is read as %v, %v", s, k, e)
			}
		case e != api.OK || kinds.Print(k) != s:
			t.Fatalf("%q: %v, %v", s, k, e)
		}
		if more > 0 {
			for _, piece := range []string{"*", "(", ")", " -> ", " ", "->"} {
				each(s+piece, more-1)
			}
		}
	}
	each("", 7)
}

// P3.2: each byte of a print, left out, said twice, or another one.
func TestReadChangedPrints(t *testing.T) {
	is := map[string]bool{}
	for _, k := range some(4, 2) {
		is[kinds.Print(k)] = true
	}
	look := func(s string) {
		k, e := kinds.Read(s)
		if (e == api.OK) != is[s] || e == api.OK && kinds.Print(k) != s || e != api.OK && (e != api.ErrSyntax || len(k.From) != 0) {
			t.Errorf("%q: %v, %v", s, k, e)
		}
	}
	for _, x := range prints[:9] {
		for i := range len(x.print) {
			look(x.print[:i])
			look(x.print[:i] + x.print[i+1:])
			look(x.print[:i] + x.print[i:i+1] + x.print[i:])
			for b := range 256 {
				look(x.print[:i] + string([]byte{byte(b)}) + x.print[i+1:])
			}
		}
	}
}

// R1: texts of nothing but brackets, however many.
func TestReadEnds(t *testing.T) {
	for _, s := range []string{
		strings.Repeat("(", 1000000), strings.Repeat(")", 1000000), strings.Repeat("(* -> ", 1000000), strings.Repeat("* -> ", 1000000),
	} {
		if k, e := kinds.Read(s); e != api.ErrSyntax || len(k.From) != 0 {
			t.Errorf("%.20q: %v", s, e)
		}
	}
}

// R4: what is read twice is in memory of its own each time.
func TestReadInMemoryOfItsOwn(t *testing.T) {
	for _, x := range prints {
		a, _ := kinds.Read(x.print)
		b, _ := kinds.Read(x.print)
		for i := range a.From {
			spoil(a.From[i])
			for j := i + 1; j < len(a.From); j++ {
				if !equal(a.From[j], x.k.From[j]) {
					t.Errorf("%q: its lists share memory", x.print)
				}
			}
		}
		spoil(a)
		if !equal(b, x.k) {
			t.Errorf("%q: %v", x.print, b)
		}
	}
}

// P3.2: of any bytes whatever.
func FuzzRead(f *testing.F) {
	for _, x := range prints {
		f.Add(x.print)
	}
	f.Fuzz(func(t *testing.T, s string) {
		k, e := kinds.Read(s)
		if e == api.OK && kinds.Print(k) != s || e != api.OK && (e != api.ErrSyntax || len(k.From) != 0) {
			t.Errorf("%q: %v, %v", s, k, e)
		}
	})
}
