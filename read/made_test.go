package read_test

import (
	"reflect"
	"slices"
	"strconv"
	"strings"
	"testing"

	"fugue/api"
	"fugue/read"
	"fugue/types"
)

// maker writes a source by chance (a row of numbers that is always the same), and tells what must be read there.
type maker struct {
	out    strings.Builder
	places []int // of all tokens
	seed   uint64
}

func (m *maker) chance(n int) int {
	m.seed = m.seed*6364136223846793005 + 1442695040888963407
	return int((m.seed >> 33) % uint64(n))
}

// put writes a token, with blanks ahead, and tells its place.
func (m *maker) put(token string) int {
	blanks := []string{" ", " ", " ", "  ", "\n", "\t", " --(\n"}
	m.out.WriteString(blanks[m.chance(len(blanks))])
	at := m.out.Len()
	m.places = append(m.places, at)
	m.out.WriteString(token)
	return at
}

func (m *maker) empties() {
	for m.chance(3) == 0 {
		m.put(";")
	}
}

func (m *maker) lower() string { return []string{"x", "y", "zs'", "in_"}[m.chance(4)] }

func (m *maker) upper() string { return []string{"A", "Bc", "Let"}[m.chance(3)] }

// around writes something in as many brackets as chance will, or in one more if it must be.
func around[T any](m *maker, must bool, write func() T) T {
	n := max(0, m.chance(5)-3)
	if must {
		n++
	}
	for range n {
		m.put("(")
	}
	x := write()
	for range n {
		m.put(")")
	}
	return x
}

// typ writes a type; level 0: any, 1: on a left side or as what is given something, 2: as what is given.
func (m *maker) typ(deep, level int) api.Type {
	form := m.chance(4)
	switch {
	case deep == 0 && form > 1, form == 0:
		return around(m, false, func() api.Type {
			s := m.lower()
			m.put(s)
			return types.Var(s)
		})
	case form == 1:
		return around(m, false, func() api.Type {
			s := m.upper()
			m.put(s)
			return types.Con(s)
		})
	case form == 2:
		return around(m, level > 1, func() api.Type {
			f := m.typ(deep-1, 1)
			return types.App(f, m.typ(deep-1, 2))
		})
	}
	return around(m, level > 0, func() api.Type {
		from := m.typ(deep-1, 1)
		m.put("->")
		return types.Fun(m.typ(deep-1, 0), from)
	})
}

// preds writes predicates, or none.
func (m *maker) preds(of func() api.Type) []api.Pred {
	n := max(0, m.chance(5)-1)
	if n == 0 {
		return nil
	}
	var l []api.Pred
	brackets := n > 1 || m.chance(2) == 0
	if brackets {
		m.put("(")
	}
	for i := range n {
		if i > 0 {
			m.put(",")
		}
		class := m.upper()
		m.put(class)
		l = append(l, api.Pred{Class: class, Type: of()})
	}
	if brackets {
		m.put(")")
	}
	m.put("=>")
	return l
}

// comes adds a type's variables to l, each once.
func comes(l []string, t api.Type) []string {
	if t.Form == api.TVar && !slices.Contains(l, t.Name) {
		l = append(l, t.Name)
	}
	for _, x := range t.Args {
		l = comes(l, x)
	}
	return l
}

func (m *maker) scheme() api.Scheme {
	s := api.Scheme{Preds: m.preds(func() api.Type { return m.typ(1, 2) })}
	s.Type = m.typ(2, 0)
	for _, p := range s.Preds {
		s.Vars = comes(s.Vars, p.Type)
	}
	s.Vars = comes(s.Vars, s.Type)
	return s
}

func (m *maker) pat(deep int, within bool) api.Pat {
	form := m.chance(5)
	if deep == 0 || form < 4 {
		return around(m, false, func() api.Pat {
			switch form {
			case 0:
				return wild(m.put("_"))
			case 1:
				n := m.chance(20)
				return pint(m.put("0"+strconv.Itoa(n)), n)
			case 2:
				s := m.upper()
				return pcon(m.put(s), s)
			}
			s := m.lower()
			return pvar(m.put(s), s)
		})
	}
	return around(m, within, func() api.Pat {
		s := m.upper()
		p := pcon(m.put(s), s)
		for range 1 + m.chance(3) {
			p.Kids = append(p.Kids, m.pat(deep-1, true))
		}
		return p
	})
}

func (m *maker) names(n int) []api.Pat {
	var l []api.Pat
	for range n {
		s := m.lower()
		l = append(l, pvar(m.put(s), s))
	}
	return l
}

// exp writes an expression; level 0: any, 1: as what is given something or has a scheme, 2: as what is given.
func (m *maker) exp(deep, level int) api.Exp {
	form := m.chance(8)
	if deep == 0 {
		form %= 3
	}
	return around(m, level == 1 && form > 3 || level == 2 && form > 2, func() api.Exp {
		start := len(m.places)
		var e api.Exp
		switch form {
		case 0:
			s := m.lower()
			m.put(s)
			e = name(0, s)
		case 1:
			s := m.upper()
			m.put(s)
			e = con(0, s)
		case 2:
			n := m.chance(20)
			m.put("0" + strconv.Itoa(n))
			e = num(0, n)
		case 3:
			f := m.exp(deep-1, 1)
			e = app(0, f, m.exp(deep-1, 2))
		case 4:
			m.put("\\")
			l := m.names(1 + m.chance(3))
			m.put("->")
			e = lam(0, m.exp(deep-1, 0), l...)
		case 5:
			m.put("let")
			m.put("{")
			binds := m.values(deep, m.chance(3), true)
			m.put("}")
			m.put("in")
			e = api.Exp{Form: api.ELet, Binds: binds, Kids: []api.Exp{m.exp(deep-1, 0)}}
		case 6:
			e = m.choice(deep)
		case 7:
			x := m.exp(deep-1, 1)
			m.put(":")
			e = ann(0, x, m.scheme())
		}
		e.At = m.places[start]
		return e
	})
}

func (m *maker) choice(deep int) api.Exp {
	m.put("case")
	e := api.Exp{Form: api.ECase, Kids: []api.Exp{m.exp(deep-1, 0)}}
	m.put("of")
	m.put("{")
	m.empties()
	for i := range 1 + m.chance(3) {
		if i > 0 {
			m.put(";")
			m.empties()
		}
		e.Pats = append(e.Pats, m.pat(2, false))
		m.put("->")
		e.Kids = append(e.Kids, m.exp(deep-1, 0))
	}
	m.empties()
	m.put("}")
	return e
}

func (m *maker) bind(deep int) api.Bind {
	s := m.lower()
	d := api.Bind{Name: s, At: m.put(s)}
	l := m.names(max(0, m.chance(4)-1))
	m.put("=")
	d.Body = m.exp(deep-1, 0)
	if len(l) > 0 {
		d.Body = lam(l[0].At, d.Body, l...)
	}
	return d
}

// values writes binds, and sigs of some of them, behind them and ahead.
func (m *maker) values(deep, n int, sigs bool) []api.Bind {
	ahead := map[string]api.Scheme{}
	sig := func(s string) {
		m.put(s)
		m.put(":")
		ahead[s] = m.scheme()
		m.put(";")
		m.empties()
	}
	var l []api.Bind
	m.empties()
	early := m.lower()
	if sigs && n > 0 && m.chance(2) == 0 {
		sig(early)
		l = append(l, api.Bind{Name: early, At: m.put(early)}) // so that it has a bind
		m.put("=")
		l[0].Body = m.exp(0, 0)
		m.put(";")
		m.empties()
	}
	for range n {
		l = append(l, m.bind(deep))
		m.put(";")
		m.empties()
		last := l[len(l)-1].Name
		if _, has := ahead[last]; sigs && !has && m.chance(3) == 0 {
			sig(last)
		}
	}
	for i, d := range l {
		if s, has := ahead[d.Name]; has {
			l[i].Has, l[i].Sig = true, s
			delete(ahead, d.Name)
		}
	}
	return l
}

func (m *maker) data() api.Data {
	m.put("data")
	s := m.upper()
	d := api.Data{Name: s, At: m.put(s)}
	for _, p := range m.names(m.chance(3)) {
		d.Vars = append(d.Vars, p.Name)
	}
	m.put("=")
	for i := range 1 + m.chance(3) {
		if i > 0 {
			m.put("|")
		}
		s := m.upper()
		x := api.Con{Name: s, At: m.put(s)}
		for range m.chance(4) {
			x.Fields = append(x.Fields, m.typ(2, 2))
		}
		d.Cons = append(d.Cons, x)
	}
	return d
}

func (m *maker) class() api.Class {
	m.put("class")
	own := types.Var(m.lower())
	preds := m.preds(func() api.Type {
		return around(m, false, func() api.Type {
			m.put(own.Name)
			return own
		})
	})
	s := m.upper()
	x := api.Class{Name: s, At: m.put(s), Var: own.Name}
	for _, p := range preds {
		x.Supers = append(x.Supers, p.Class)
	}
	m.put(own.Name)
	m.put("{")
	for range m.chance(3) {
		m.empties()
		f := m.lower()
		sig := api.Sig{Name: f, At: m.put(f)}
		m.put(":")
		sig.Type = m.scheme()
		m.put(";")
		i := slices.Index(sig.Type.Vars, own.Name)
		if i >= 0 {
			sig.Type.Vars = slices.Delete(sig.Type.Vars, i, i+1)
		}
		sig.Type.Vars = slices.Insert(sig.Type.Vars, 0, own.Name)
		sig.Type.Preds = slices.Insert(sig.Type.Preds, 0, pred(s, own))
		x.Methods = append(x.Methods, sig)
	}
	m.put("}")
	return x
}

func (m *maker) instance() api.Inst {
	m.put("instance")
	preds := m.preds(func() api.Type {
		return around(m, false, func() api.Type {
			s := m.lower()
			m.put(s)
			return types.Var(s)
		})
	})
	s, of := m.upper(), m.upper()
	x := api.Inst{Class: s, At: m.put(s), Con: of, Preds: preds}
	if m.chance(2) == 0 {
		m.put(of)
	} else {
		m.put("(")
		m.put(of)
		for _, p := range m.names(m.chance(3)) {
			x.Vars = append(x.Vars, p.Name)
		}
		m.put(")")
	}
	m.put("{")
	x.Binds = m.values(2, m.chance(3), false)
	m.put("}")
	return x
}

func (m *maker) program() api.Program {
	var p api.Program
	m.empties()
	for range m.chance(4) {
		switch m.chance(3) {
		case 0:
			p.Datas = append(p.Datas, m.data())
		case 1:
			p.Classes = append(p.Classes, m.class())
		case 2:
			p.Insts = append(p.Insts, m.instance())
		}
		m.put(";")
		m.empties()
	}
	p.Binds = m.values(4, m.chance(4), true)
	if m.chance(2) == 0 {
		p.Datas = append(p.Datas, m.data())
	}
	return p
}

// placeless is an expression whose places, and those in it, are all 0.
func placeless(e api.Exp) api.Exp {
	e.At, e.Kids, e.Pats, e.Binds = 0, slices.Clone(e.Kids), slices.Clone(e.Pats), placelessBinds(e.Binds)
	for i, k := range e.Kids {
		e.Kids[i] = placeless(k)
	}
	for i, p := range e.Pats {
		e.Pats[i] = placelessPat(p)
	}
	return e
}

func placelessPat(p api.Pat) api.Pat {
	p.At, p.Kids = 0, slices.Clone(p.Kids)
	for i, k := range p.Kids {
		p.Kids[i] = placelessPat(k)
	}
	return p
}

func placelessBinds(l []api.Bind) []api.Bind {
	l = slices.Clone(l)
	for i, d := range l {
		l[i].At, l[i].Body = 0, placeless(d.Body)
	}
	return l
}

func placelessProgram(p api.Program) api.Program {
	p.Datas, p.Classes, p.Insts, p.Binds = slices.Clone(p.Datas), slices.Clone(p.Classes), slices.Clone(p.Insts), placelessBinds(p.Binds)
	for i, d := range p.Datas {
		p.Datas[i].At, p.Datas[i].Cons = 0, slices.Clone(d.Cons)
		for j := range d.Cons {
			p.Datas[i].Cons[j].At = 0
		}
	}
	for i, c := range p.Classes {
		p.Classes[i].At, p.Classes[i].Methods = 0, slices.Clone(c.Methods)
		for j := range c.Methods {
			p.Classes[i].Methods[j].At = 0
		}
	}
	for i, x := range p.Insts {
		p.Insts[i].At, p.Insts[i].Binds = 0, placelessBinds(x.Binds)
	}
	return p
}

// P6.1, P6.3: programs by chance are read as they were made, places and all, and read again of their print, but for places.
func TestMadePrograms(t *testing.T) {
	done := 0
	for seed := range 6000 {
		m := &maker{seed: uint64(seed)}
		want := m.program()
		src := m.out.String()
		if len(src) > api.MaxSource {
			continue
		}
		p, at := read.Program(src)
		if at != taken || !reflect.DeepEqual(p, want) {
			t.Fatalf("%q: %v, %v, not %v", src, p, at, want)
		}
		s := read.Print(p)
		q, at := read.Program(s)
		if at != taken || !reflect.DeepEqual(placelessProgram(q), placelessProgram(want)) || !read.Same(p, q) || read.Print(q) != s {
			t.Fatalf("%q: %q, %v, %v", src, s, q, at)
		}
		done++
	}
	if done < 4000 {
		t.Error("too few:", done)
	}
}

// P6.1, P6.3: likewise expressions and patterns.
func TestMadeExpressions(t *testing.T) {
	done := 0
	for seed := range 10000 {
		m, n := &maker{seed: uint64(seed)}, &maker{seed: uint64(seed)}
		want, pat := m.exp(5, 0), n.pat(5, false)
		src := m.out.String()
		if p, at := read.Pat(n.out.String()); at != taken || !reflect.DeepEqual(p, pat) {
			t.Fatalf("%q: %v, %v, not %v", n.out.String(), p, at, pat)
		}
		if p, at := read.Pat(read.PrintPat(pat)); at != taken || !reflect.DeepEqual(placelessPat(p), placelessPat(pat)) {
			t.Fatalf("%q: %v, %v", read.PrintPat(pat), p, at)
		}
		if len(src) > api.MaxSource {
			continue
		}
		e, at := read.Exp(src)
		if at != taken || !reflect.DeepEqual(e, want) {
			t.Fatalf("%q: %v, %v, not %v", src, e, at, want)
		}
		s := read.PrintExp(e)
		again, at := read.Exp(s)
		if at != taken || !reflect.DeepEqual(placeless(again), placeless(want)) || read.PrintExp(again) != s {
			t.Fatalf("%q: %q, %v, %v", src, s, again, at)
		}
		done++
	}
	if done < 5000 {
		t.Error("too few:", done)
	}
}

// P6.3: what is nested twenty deep, by all that goes further within.
func TestReadOfDeepPrint(t *testing.T) {
	for _, x := range []struct{ ahead, within, behind string }{
		{"\\ x -> ", "x", ""}, {"f (", "g x", ")"}, {"(\\ x -> ", "x", ") 1"}, {"let { x = ", "1", " } in x"}, {"let { } in ", "x", ""}, {"case x of { y -> ", "1", " }"}, {"case ", "x", " of { y -> z }"}, {"(", "x : a", ") : a"},
	} {
		for _, n := range []int{1, 19, 20} {
			src := strings.Repeat(x.ahead, n) + x.within + strings.Repeat(x.behind, n)
			e, at := read.Exp(src)
			if s := read.PrintExp(e); at != taken || s != src {
				t.Errorf("%q: %q, %v", src, s, at)
			}
		}
	}
}
