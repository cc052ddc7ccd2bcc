package kindof_test

import (
	"slices"
	"strconv"
	"strings"

	"fugue/api"
	"fugue/types"
)

// of is a kind, written out: it leads from these.
func of(from ...api.Kind) api.Kind { return api.Kind{From: from} }

// chance is a row of numbers that is always the same.
type chance struct{ seed uint64 }

func (c *chance) next(n int) int {
	c.seed = c.seed*6364136223846793005 + 1442695040888963407
	return int((c.seed >> 33) % uint64(n))
}

// shuffle puts a list into another row.
func shuffle[T any](c *chance, l []T) {
	for i := range l {
		j := i + c.next(len(l)-i)
		l[i], l[j] = l[j], l[i]
	}
}

// thing is a type's constructor, a variable, or a class, that is meant to be of a kind.
type thing struct {
	is   api.Type
	kind api.Kind
}

// maker writes programs that scope takes. Each thing is meant to be of some kind, and what is written is meant to fit; but
// it slips as seldom as it is told, and what is meant may be more than what is asked.
type maker struct {
	chance
	out     strings.Builder
	seldom  int
	plain   int // of ten kinds that are meant so many are the kind of types
	cons    []thing
	classes []thing
	count   int
}

func (m *maker) put(s string) { m.out.WriteString(s + " ") }

func (m *maker) meant() api.Kind {
	if m.next(10) < m.plain {
		return of()
	}
	one := of(of())
	return []api.Kind{one, one, one, of(of(), of()), of(one), of(one, of()), of(of(), one)}[m.next(7)]
}

// vars is variables, each meant to be of some kind.
func (m *maker) vars(n int) []thing {
	var l []thing
	for i := range n {
		l = append(l, thing{types.Var(string(rune('a' + i))), m.meant()})
	}
	return l
}

// typ is a type that is meant to be of a kind.
func (m *maker) typ(k api.Kind, vars []thing, deep int) api.Type {
	if m.next(m.seldom) == 0 {
		k = m.meant()
	}
	var fit []thing
	for _, x := range slices.Concat(vars, vars, vars, m.cons) {
		more := len(x.kind.From) - len(k.From)
		if x.is.Name == "->" && more < 2 { // no source says it so
			continue
		}
		if more == 0 && equal(x.kind, k) || more > 0 && deep > 0 && equal(of(x.kind.From[more:]...), k) {
			fit = append(fit, x)
		}
	}
	if len(fit) == 0 {
		return append(vars, m.cons...)[0].is
	}
	x := fit[m.next(len(fit))]
	for _, from := range x.kind.From[:len(x.kind.From)-len(k.From)] {
		x.is = types.App(x.is, m.typ(from, vars, deep-1))
	}
	return x.is
}

// atom writes a type that stands as one thing.
func (m *maker) atom(t api.Type) { m.put("(" + types.Print(t) + ")") }

// preds writes predicates, or none.
func (m *maker) preds(n int, of func(k api.Kind) (api.Type, bool)) {
	var l []string
	for range n {
		if len(m.classes) > 0 {
			c := m.classes[m.next(len(m.classes))]
			if t, is := of(c.kind); is {
				l = append(l, c.is.Name+" ("+types.Print(t)+")")
			}
		}
	}
	if len(l) > 0 {
		m.put("(" + strings.Join(l, ", ") + ") =>")
	}
}

// among is one of variables that is meant to be of a kind, if there is one; seldom another one.
func (m *maker) among(vars []thing, k api.Kind) (api.Type, bool) {
	l := slices.DeleteFunc(slices.Clone(vars), func(x thing) bool { return !equal(x.kind, k) && m.next(m.seldom) > 0 })
	if len(l) == 0 {
		return api.Type{}, false
	}
	return l[m.next(len(l))].is, true
}

// scheme writes predicates and a type, in which variables may come.
func (m *maker) scheme(vars []thing) {
	vars = append(slices.Clone(vars), thing{types.Var("y"), m.meant()}, thing{types.Var("z"), m.meant()})
	m.preds(m.next(3), func(k api.Kind) (api.Type, bool) { return m.typ(k, vars, 1), true })
	m.put(types.Print(m.typ(of(), vars, 3)))
}

func (m *maker) data(d thing) {
	vars := m.vars(0)
	m.put("data " + d.is.Name)
	for i, k := range d.kind.From {
		vars = append(vars, thing{types.Var(string(rune('a' + i))), k})
		m.put(vars[i].is.Name)
	}
	for i := range 1 + m.next(3) {
		m.count++
		m.put([]string{"=", "|"}[min(i, 1)] + " C" + strconv.Itoa(m.count))
		for range m.next(4) {
			m.atom(m.typ(of(), vars, 2))
		}
	}
	m.put(";")
}

func (m *maker) class(c thing, methods int) {
	own := []thing{{types.Var("a"), c.kind}}
	m.put("class")
	m.preds(m.next(3), func(k api.Kind) (api.Type, bool) { return m.among(own, k) })
	m.put(c.is.Name + " a {")
	for i := range methods {
		m.put("m" + c.is.Name + strconv.Itoa(i) + " :")
		m.scheme(own)
		m.put(";")
	}
	m.put("} ;")
}

// instance writes an instance of a class, of one of the constructors that are meant to fit.
func (m *maker) instance(c thing, methods int) {
	con, n := thing{types.Con("Int"), of()}, 0
	for range 9 {
		x := m.cons[m.next(len(m.cons))]
		more := len(x.kind.From) - len(c.kind.From)
		if x.is.Name != "->" && more >= 0 && (equal(of(x.kind.From[more:]...), c.kind) || m.next(m.seldom) == 0) {
			con, n = x, more
		}
	}
	if m.next(m.seldom) == 0 {
		n = m.next(4)
	}
	vars := m.vars(n)
	for i := range min(n, len(con.kind.From)) {
		vars[i].kind = con.kind.From[i]
	}
	m.put("instance")
	m.preds(m.next(3), func(k api.Kind) (api.Type, bool) { return m.among(vars, k) })
	m.put(c.is.Name + " (" + con.is.Name)
	for _, v := range vars {
		m.put(" " + v.is.Name)
	}
	m.put(") {")
	for i := range methods {
		m.put("m" + c.is.Name + strconv.Itoa(i) + " =")
		m.exp(1)
		m.put(";")
	}
	m.put("} ;")
}

// exp writes an expression in which signatures stand here and there.
func (m *maker) exp(deep int) {
	form := m.next(7)
	if deep == 0 {
		form = 0
	}
	switch form {
	case 0:
		m.put("1")
	case 1:
		m.inBrackets(deep)
		m.inBrackets(deep)
	case 2:
		m.put("\\ x ->")
		m.exp(deep - 1)
	case 3, 4:
		m.put("let {")
		m.binds("g", m.next(3), deep-1)
		m.put("} in")
		m.exp(deep - 1)
	case 5:
		m.put("case")
		m.inBrackets(deep)
		m.put("of { 1 ->")
		m.exp(deep - 1)
		m.put("; _ ->")
		m.exp(deep - 1)
		m.put("}")
	case 6:
		m.inBrackets(deep)
		m.put(":")
		m.scheme(nil)
	}
}

func (m *maker) inBrackets(deep int) {
	m.put("(")
	m.exp(deep - 1)
	m.put(")")
}

func (m *maker) binds(name string, n, deep int) {
	for i := range n {
		own := name + strconv.Itoa(i)
		if m.next(2) == 0 {
			m.put(own + " :")
			m.scheme(nil)
			m.put(";")
		}
		m.put(own + " =")
		m.exp(deep)
		m.put(";")
	}
}

// program writes a program: what everything is meant to be is chosen first, so that what stands behind may be spoken of.
func (m *maker) program(datas, classes, insts, binds int) string {
	m.cons = []thing{{types.Con("Int"), of()}, {types.Con("Bool"), of()}, {types.Con("->"), of(of(), of())}}
	own := len(m.cons)
	for i := range datas {
		d := thing{is: types.Con("T" + strconv.Itoa(i))}
		for range m.next(4) {
			d.kind.From = append(d.kind.From, m.meant())
		}
		m.cons = append(m.cons, d)
	}
	methods := make([]int, classes)
	for i := range classes {
		m.classes = append(m.classes, thing{types.Con("E" + strconv.Itoa(i)), m.meant()})
		methods[i] = m.next(3)
	}
	for _, d := range m.cons[own:] {
		m.data(d)
	}
	for i, c := range m.classes {
		m.class(c, methods[i])
	}
	for range insts {
		if classes > 0 {
			i := m.next(classes)
			m.instance(m.classes[i], methods[i])
		}
	}
	m.binds("f", binds, 3)
	return m.out.String()
}
