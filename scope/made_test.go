package scope_test

import (
	"slices"
	"strconv"
	"strings"
	"testing"

	"fugue/api"
	"fugue/read"
	"fugue/scc"
	"fugue/scope"
)

// maker writes sources by chance (a row of numbers that is always the same). It knows what may stand where it writes, and
// writes something else there as seldom as it is told.
type maker struct {
	out    strings.Builder
	seed   uint64
	seldom int // one of so many names is one that may be wrong
	given  []string
	vars   []string // of types
	types  []string
	cons   []string
	things map[string]int // of each constructor
	class  []string
	count  int
}

func (m *maker) chance(n int) int {
	m.seed = m.seed*6364136223846793005 + 1442695040888963407
	return int((m.seed >> 33) % uint64(n))
}

func (m *maker) put(s string) { m.out.WriteString(s + " ") }

func (m *maker) slips() bool { return m.chance(m.seldom) == 0 }

// one is one of those that may stand there, or, seldom, any.
func (m *maker) one(may []string, any ...string) string {
	if len(may) == 0 || m.slips() {
		return any[m.chance(len(any))]
	}
	return may[m.chance(len(may))]
}

// fresh is a name that is nobody's, or, seldom, any.
func (m *maker) fresh(head string, any ...string) string {
	m.count++
	return m.one([]string{head + strconv.Itoa(m.count)}, any...)
}

func (m *maker) value() string { return m.one(m.given, "x1", "f2", "add", "y", "m3") }

// local is a name that a lambda, a let or a pattern may give: often one that is given already.
func (m *maker) local(taken []string) string {
	for range 9 {
		s := []string{"x", "y", "z", "add", "f1", "m2"}[m.chance(6)]
		if !slices.Contains(taken, s) || m.slips() {
			return s
		}
	}
	return m.fresh("x", "x", "y")
}

func (m *maker) typ(deep int) {
	switch form := m.chance(5); {
	case deep == 0 || form < 2:
		m.put(m.one(m.types, "Int", "T1", "Q"))
	case form == 2:
		m.put(m.one(append(m.vars, "Int"), "a", "b", "Bool"))
	case form == 3:
		m.put("(")
		m.typ(deep - 1)
		m.put("->")
		m.typ(deep - 1)
		m.put(")")
	default:
		m.put("(")
		m.typ(0)
		m.typ(deep - 1)
		m.put(")")
	}
}

// preds writes predicates of a class of those, or none.
func (m *maker) preds(of func()) {
	n := m.chance(4) - 1
	if n <= 0 {
		return
	}
	m.put("(")
	for i := range n {
		if i > 0 {
			m.put(",")
		}
		m.put(m.one(m.class, "E1", "Q", "Int"))
		of()
	}
	m.put(") =>")
}

func (m *maker) scheme() {
	was := m.vars
	m.vars = []string{"a", "b"}
	if len(m.class) > 0 {
		m.preds(func() { m.typ(1) })
	}
	m.typ(2)
	m.vars = was
}

// locals writes names that are given at one place, and tells them.
func (m *maker) locals(n int) []string {
	var l []string
	for range n {
		l = append(l, m.local(l))
		m.put(l[len(l)-1])
	}
	return l
}

// where writes something in which more names are given.
func (m *maker) where(more []string, write func()) {
	was := m.given
	m.given = append(slices.Clone(was), more...)
	write()
	m.given = was
}

func (m *maker) exp(deep int) {
	form := m.chance(9)
	if deep == 0 {
		form = m.chance(3)
	}
	switch form {
	case 0:
		m.put(m.value())
	case 1:
		m.put(m.one(m.cons, "C1", "True", "Q"))
	case 2:
		m.put(strconv.Itoa(m.chance(9)))
	case 3, 4:
		m.inBrackets(deep - 1)
		m.inBrackets(deep - 1)
	case 5:
		m.put("\\")
		l := m.locals(1 + m.chance(3))
		m.put("->")
		m.where(l, func() { m.exp(deep - 1) })
	case 6:
		m.let(deep)
	case 7:
		m.choice(deep)
	case 8:
		m.inBrackets(deep - 1)
		m.put(":")
		m.scheme()
	}
}

func (m *maker) inBrackets(deep int) {
	m.put("(")
	m.exp(deep)
	m.put(")")
}

func (m *maker) let(deep int) {
	var l []string
	for range m.chance(4) {
		l = append(l, m.local(l))
	}
	m.where(l, func() {
		m.put("let {")
		m.binds(l, deep, true)
		m.put("} in")
		m.exp(deep - 1)
	})
}

// binds writes binds of names, and sigs of some, of the first one of a name.
func (m *maker) binds(l []string, deep int, sigs bool) {
	for i, name := range l {
		if sigs && m.chance(3) == 0 && !slices.Contains(l[:i], name) {
			m.put(name + " :")
			m.scheme()
			m.put(";")
		}
		m.put(name)
		args := m.locals(max(0, m.chance(4)-1))
		m.put("=")
		m.where(args, func() { m.exp(deep - 1) })
		m.put(";")
	}
}

func (m *maker) choice(deep int) {
	m.put("case")
	m.exp(deep - 1)
	m.put("of {")
	for range 1 + m.chance(3) {
		l := m.pat(2, nil)
		m.put("->")
		m.where(l, func() { m.exp(deep - 1) })
		m.put(";")
	}
	m.put("}")
}

// pat writes a pattern behind some names that it gave already, and tells all.
func (m *maker) pat(deep int, taken []string) []string {
	switch form := m.chance(6); {
	case deep == 0 && form > 2, form == 0:
		m.put("_")
	case form == 1:
		m.put("1")
	case form == 2:
		taken = append(taken, m.local(taken))
		m.put(taken[len(taken)-1])
	default:
		name := m.one(m.cons, "C1", "C2", "True", "Q")
		n := m.things[name]
		if m.chance(1+m.seldom/3) == 0 {
			n = m.chance(3)
		}
		m.put("( " + name)
		for range n {
			taken = m.pat(deep-1, taken)
		}
		m.put(")")
	}
	return taken
}

func (m *maker) data(name string, cons []string) {
	m.put("data " + name)
	m.vars = nil
	for range m.chance(3) {
		m.vars = append(m.vars, m.fresh("a", "a1", "a2"))
		m.put(m.vars[len(m.vars)-1])
	}
	for i, c := range cons {
		m.put([]string{"=", "|"}[min(i, 1)] + " " + c)
		for range m.things[c] {
			m.typ(1)
		}
	}
	m.put(";")
	m.vars = nil
}

func (m *maker) classDecl(name string, methods []string) {
	m.put("class")
	m.preds(func() { m.put("a") })
	m.put(name + " a {")
	for _, s := range methods {
		m.put(s + " :")
		m.scheme()
		m.put(";")
	}
	m.put("} ;")
}

func (m *maker) instance(class string, methods []string) {
	var vars []string
	for range m.chance(3) {
		vars = append(vars, m.fresh("a", "a1", "a2"))
	}
	m.put("instance")
	m.preds(func() { m.put(m.one(vars, "a1", "a")) })
	m.put(class + " ( " + m.one(m.types, "Q", "C1") + " " + strings.Join(vars, " ") + " ) {")
	m.binds(methods, 2, false)
	m.put("} ;")
}

// pick is some of a list's.
func (m *maker) pick(l []string) []string {
	var out []string
	for _, s := range l {
		if m.chance(2) == 0 {
			out = append(out, s)
		}
	}
	if len(out) > 0 && m.slips() {
		out = append(out, out[0])
	}
	return out
}

// program writes a program: all names are chosen first, so that what stands behind may be spoken of.
func (m *maker) program() string {
	m.given = []string{"add", "sub", "mul", "div", "eq", "lt"}
	m.types, m.cons, m.things = []string{"Int", "Bool"}, []string{"False", "True"}, map[string]int{}
	cons, methods := map[int][]string{}, map[int][]string{}
	var binds []string
	for i := range m.chance(3) {
		m.types = append(m.types, m.fresh("T", "T1", "Int", "Bool"))
		for range 1 + m.chance(3) {
			c := m.fresh("C", "C2", "C1", "True")
			if _, has := m.things[c]; !has && c != "True" {
				m.things[c] = m.chance(3)
			}
			m.cons = append(m.cons, c)
			cons[i] = append(cons[i], c)
		}
	}
	for i := range m.chance(3) {
		m.class = append(m.class, m.fresh("E", "E1", "E2"))
		for range m.chance(3) {
			methods[i] = append(methods[i], m.fresh("m", "add", "f1", "m1", "m2"))
		}
		m.given = append(m.given, methods[i]...)
	}
	for range m.chance(5) {
		binds = append(binds, m.fresh("f", "add", "lt", "f1", "f2", "m2"))
	}
	m.given = append(m.given, binds...)
	m.written(cons, methods, binds)
	return m.out.String()
}

// written writes the declarations in some row.
func (m *maker) written(cons, methods map[int][]string, binds []string) {
	rows := []func(){func() { m.binds(binds, 3, true) }}
	for i, name := range m.types[2:] {
		rows = append(rows, func() { m.data(name, cons[i]) })
	}
	for i, name := range m.class {
		rows = append(rows, func() { m.classDecl(name, methods[i]) })
		if m.chance(2) == 0 {
			rows = append(rows, func() { m.instance(m.one([]string{name}, "Q", "E1"), m.pick(methods[i])) })
		}
	}
	for len(rows) > 0 {
		i := m.chance(len(rows))
		rows[i]()
		rows = slices.Delete(rows, i, i+1)
	}
}

// P8.1, P8.3, P8.4 of what stands in a program: all expressions, patterns and lists of binds.
func holdsWithin(t *testing.T, src string, l []api.Bind) {
	t.Helper()
	if got, want := scope.Groups(l), scc.Groups(len(l), uses(l)); !slices.EqualFunc(got, want, slices.Equal[[]int]) {
		t.Fatalf("%s: groups %v, not %v", src, got, want)
	}
	var within func(e api.Exp)
	within = func(e api.Exp) {
		free := scope.Free(e)
		if want := once(frees(e)); !slices.Equal(free, want) {
			t.Fatalf("%s: %s: %v, not %v", src, read.PrintExp(e), free, want)
		}
		for _, p := range e.Pats {
			if got := scope.Vars(p); !slices.Equal(got, gives(p)) {
				t.Fatalf("%s: %s: %v", src, read.PrintPat(p), got)
			}
			if e.Form == api.ELam && slices.Contains(free, p.Name) {
				t.Fatalf("%s: %s: %v", src, read.PrintExp(e), free)
			}
		}
		holdsWithin(t, src, e.Binds)
		for _, kid := range e.Kids {
			within(kid)
		}
	}
	for _, b := range l {
		within(b.Body)
	}
}

// allGiven checks P8.4: in what Check takes all that is free is given.
func allGiven(t *testing.T, src string, p api.Program) {
	t.Helper()
	given := scope.Prims()
	for _, c := range p.Classes {
		for _, m := range c.Methods {
			given = append(given, m.Name)
		}
	}
	bodies := slices.Clone(p.Binds)
	for _, b := range p.Binds {
		given = append(given, b.Name)
	}
	for _, x := range p.Insts {
		bodies = append(bodies, x.Binds...)
	}
	for _, b := range bodies {
		if l := without(scope.Free(b.Body), given); len(l) > 0 {
			t.Fatal(src, l)
		}
	}
}

// P8.1 to P8.4: programs made by chance, held against the chapter's words.
func TestMade(t *testing.T) {
	counts := map[api.Errno]int{}
	for seed := range 12000 {
		m := maker{seed: uint64(seed)*7919 + 1, seldom: []int{1000, 60, 20, 5}[seed%4]}
		src := m.program()
		p, at := read.Program(src)
		if at != (api.At{}) {
			if at.Errno != api.ErrLong { // a source may become too long
				t.Fatal(src, at)
			}
			continue
		}
		got, want := scope.Check(p), check(p)
		if got != want {
			t.Fatalf("%s: %v, not %v", src, got, want)
		}
		counts[got.Errno]++
		if got.Errno == api.OK {
			allGiven(t, src, p)
		}
		holdsWithin(t, src, p.Binds)
		for _, x := range p.Insts {
			holdsWithin(t, src, x.Binds)
		}
	}
	for _, e := range []api.Errno{api.OK, api.ErrOwn, api.ErrTwice, api.ErrNone, api.ErrArity} {
		if counts[e] < 100 {
			t.Error("too few:", e, counts)
		}
	}
	t.Log(counts)
}
