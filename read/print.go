package read

import (
	"strconv"
	"strings"

	"fugue/api"
	"fugue/types"
)

// printer writes tokens, with a blank between them where one must stand.
type printer struct {
	text strings.Builder
	last string // what was written last
}

func (p *printer) put(tokens ...string) {
	for _, t := range tokens {
		if p.last != "" && p.last != "(" && t != ")" && t != "," {
			p.text.WriteString(" ")
		}
		p.text.WriteString(t)
		p.last = t
	}
}

// line ends what is declared, so that something else may follow.
func (p *printer) line() {
	if p.last != "" {
		p.put(";")
		p.text.WriteString("\n")
		p.last = ""
	}
}

// brackets writes something, in brackets where they must be.
func (p *printer) brackets(must bool, write func()) {
	if must {
		p.put("(")
	}
	write()
	if must {
		p.put(")")
	}
}

// rows writes what stands between two tokens, with another one between.
func (p *printer) rows(open, between, shut string, writes []func()) {
	p.put(open)
	for i, write := range writes {
		if i > 0 {
			p.put(between)
		}
		write()
	}
	p.put(shut)
}

func (p *printer) braces(writes []func()) { p.rows("{", ";", "}", writes) }

func (p *printer) program(x api.Program) {
	for _, d := range x.Datas {
		p.line()
		p.data(d)
	}
	for _, c := range x.Classes {
		p.line()
		p.class(c)
	}
	for _, i := range x.Insts {
		p.line()
		p.instance(i)
	}
	for _, write := range p.values(x.Binds) {
		p.line()
		write()
	}
}

func (p *printer) data(d api.Data) {
	p.put("data", d.Name)
	p.put(d.Vars...)
	p.put("=")
	for i, c := range d.Cons {
		if i > 0 {
			p.put("|")
		}
		p.put(c.Name)
		for _, t := range c.Fields {
			p.atom(t)
		}
	}
}

func (p *printer) class(c api.Class) {
	p.put("class")
	var supers []api.Pred
	for _, s := range c.Supers {
		supers = append(supers, api.Pred{Class: s, Type: types.Var(c.Var)})
	}
	p.preds(supers)
	p.put(c.Name, c.Var)
	var methods []func()
	for _, m := range c.Methods {
		m.Type.Preds = m.Type.Preds[min(1, len(m.Type.Preds)):] // the class's own is not said
		methods = append(methods, func() { p.sig(m.Name, m.Type) })
	}
	p.braces(methods)
}

func (p *printer) instance(x api.Inst) {
	p.put("instance")
	p.preds(x.Preds)
	p.put(x.Class)
	p.brackets(len(x.Vars) > 0, func() {
		p.put(x.Con)
		p.put(x.Vars...)
	})
	p.braces(p.values(x.Binds))
}

// values is what writes binds, each one's sig ahead of it as one more.
func (p *printer) values(l []api.Bind) []func() {
	var writes []func()
	for _, b := range l {
		if b.Has {
			writes = append(writes, func() { p.sig(b.Name, b.Sig) })
		}
		writes = append(writes, func() {
			p.put(b.Name, "=")
			p.exp(b.Body)
		})
	}
	return writes
}

func (p *printer) sig(name string, s api.Scheme) {
	p.put(name, ":")
	p.scheme(s)
}

func (p *printer) scheme(s api.Scheme) {
	p.preds(s.Preds)
	p.put(types.Print(s.Type))
}

func (p *printer) preds(l []api.Pred) {
	var writes []func()
	for _, x := range l {
		writes = append(writes, func() {
			p.put(x.Class)
			p.atom(x.Type)
		})
	}
	switch len(writes) {
	case 0:
		return
	case 1:
		writes[0]()
	default:
		p.rows("(", ",", ")", writes)
	}
	p.put("=>")
}

// atom writes a type as it stands behind a constructor's, or a class's, name.
func (p *printer) atom(t api.Type) {
	p.brackets(t.Form == api.TApp, func() { p.put(types.Print(t)) })
}

func (p *printer) exp(e api.Exp) {
	switch e.Form {
	case api.EVar, api.ECon:
		p.put(e.Name)
	case api.EInt:
		p.put(strconv.Itoa(e.N))
	case api.EApp:
		p.asked(kid(e, 0))
		given := kid(e, 1)
		p.brackets(!short(given), func() { p.exp(given) })
	case api.ELam:
		p.put("\\")
		for _, x := range e.Pats {
			p.put(x.Name)
		}
		p.put("->")
		p.exp(kid(e, 0))
	case api.ELet:
		p.put("let")
		p.braces(p.values(e.Binds))
		p.put("in")
		p.exp(kid(e, 0))
	case api.ECase:
		p.choice(e)
	case api.EAnn:
		p.asked(kid(e, 0))
		p.put(":")
		p.scheme(e.Sig)
	}
}

func (p *printer) choice(e api.Exp) {
	p.put("case")
	p.exp(kid(e, 0))
	p.put("of")
	var alts []func()
	for i, x := range e.Pats {
		alts = append(alts, func() {
			p.pat(x)
			p.put("->")
			p.exp(kid(e, 1+i))
		})
	}
	p.braces(alts)
}

// asked writes an expression that is given something, or has a scheme.
func (p *printer) asked(e api.Exp) { p.brackets(!short(e) && e.Form != api.EApp, func() { p.exp(e) }) }

// short tells whether an expression is a name or a number.
func short(e api.Exp) bool {
	return e.Form == api.EVar || e.Form == api.ECon || e.Form == api.EInt
}

// kid is an expression's thing at a place; one without such a thing, which is never read, has none to print.
func kid(e api.Exp, i int) api.Exp {
	if i < len(e.Kids) {
		return e.Kids[i]
	}
	return api.Exp{}
}

func (p *printer) pat(x api.Pat) {
	switch x.Form {
	case api.PWild:
		p.put("_")
	case api.PVar, api.PCon:
		p.put(x.Name)
	case api.PInt:
		p.put(strconv.Itoa(x.N))
	}
	for _, k := range x.Kids {
		p.brackets(len(k.Kids) > 0, func() { p.pat(k) })
	}
}
