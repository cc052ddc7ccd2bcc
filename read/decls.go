package read

import (
	"slices"

	"fugue/api"
	"fugue/lex"
	"fugue/tread"
	"fugue/types"
)

func (r *reader) program() api.Program {
	var p api.Program
	var own values
	r.row(func(t lex.Token) bool { return t.Kind == lex.End }, beginsDecl, func() {
		switch {
		case r.takes("data"):
			p.Datas = append(p.Datas, r.data())
		case r.takes("class"):
			p.Classes = append(p.Classes, r.class())
		case r.takes("instance"):
			p.Insts = append(p.Insts, r.instance())
		default:
			r.value(&own, r.exp)
		}
	})
	p.Binds = own.signed()
	return p
}

// data reads a data type, behind its key.
func (r *reader) data() api.Data {
	name := r.name(lex.Upper)
	vars := r.lowers()
	if len(vars) > api.MaxArgs {
		refuse(api.ErrLong, name)
	}
	r.want("=")
	d := api.Data{Name: name.Text, At: name.At, Vars: texts(vars)}
	for {
		d.Cons = append(d.Cons, r.con())
		if len(d.Cons) > api.MaxCons {
			refuse(api.ErrLong, name)
		}
		if !r.takes("|") {
			return d
		}
	}
}

func (r *reader) con() api.Con {
	name := r.name(lex.Upper)
	c := api.Con{Name: name.Text, At: name.At}
	for beginsType(r.token()) {
		c.Fields = append(c.Fields, typed(&r.place, tread.Atom))
	}
	if len(c.Fields) > api.MaxArgs {
		refuse(api.ErrLong, name)
	}
	return c
}

// class reads a class, behind its key.
func (r *reader) class() api.Class {
	preds := typed(&r.place, tread.Preds)
	name := r.name(lex.Upper)
	of := r.name(lex.Lower)
	c := api.Class{Name: name.Text, At: name.At, Var: of.Text}
	for _, p := range preds {
		if !types.Same(p.Type, types.Var(c.Var)) {
			refuse(api.ErrSyntax, name)
		}
		c.Supers = append(c.Supers, p.Class)
	}
	r.braces(beginsName, func() {
		s := r.sig(r.name(lex.Lower))
		s.Type = ofClass(c, s.Type)
		c.Methods = append(c.Methods, s)
		if len(c.Methods) > api.MaxCons {
			refuse(api.ErrLong, name)
		}
	})
	return c
}

// ofClass is a method's scheme: of the class's variable first, which is in the class.
func ofClass(c api.Class, s api.Scheme) api.Scheme {
	vars := []string{c.Var}
	for _, v := range s.Vars {
		if v != c.Var {
			vars = append(vars, v)
		}
	}
	own := api.Pred{Class: c.Name, Type: types.Var(c.Var)}
	return api.Scheme{Vars: vars, Preds: append([]api.Pred{own}, s.Preds...), Type: s.Type}
}

// instance reads an instance, behind its key.
func (r *reader) instance() api.Inst {
	preds := typed(&r.place, tread.Preds)
	class := r.name(lex.Upper)
	con, vars := r.head()
	if len(vars) > api.MaxArgs {
		refuse(api.ErrLong, class)
	}
	for _, p := range preds {
		if p.Type.Form != api.TVar {
			refuse(api.ErrSyntax, class)
		}
	}
	x := api.Inst{Class: class.Text, At: class.At, Con: con.Text, Vars: texts(vars), Preds: preds}
	r.braces(beginsName, func() {
		x.Binds = append(x.Binds, r.bind(r.name(lex.Lower), r.exp))
	})
	return x
}

// head reads an instance's constructor, and its variables.
func (r *reader) head() (lex.Token, []lex.Token) {
	if !r.takes("(") {
		return r.name(lex.Upper), nil
	}
	con := r.name(lex.Upper)
	vars := r.lowers()
	r.want(")")
	return con, vars
}

// values is the binds and sigs of a program, or of a let, each in their row.
type values struct {
	binds []api.Bind
	sigs  []api.Sig
}

// value reads a sig or a bind, whose Body is read by body.
func (r *reader) value(v *values, body func() api.Exp) {
	name := r.name(lex.Lower)
	if r.token().Text == ":" {
		v.sigs = append(v.sigs, r.sig(name))
	} else {
		v.binds = append(v.binds, r.bind(name, body))
	}
}

// signed is the binds with their sigs.
func (v values) signed() []api.Bind {
	for _, s := range v.sigs {
		i := slices.IndexFunc(v.binds, func(b api.Bind) bool { return b.Name == s.Name })
		switch {
		case i < 0:
			panic(api.At{Errno: api.ErrNone, At: s.At})
		case v.binds[i].Has:
			panic(api.At{Errno: api.ErrTwice, At: s.At})
		}
		v.binds[i].Has, v.binds[i].Sig = true, s.Type
	}
	return v.binds
}

// sig reads a sig, behind its name.
func (r *reader) sig(name lex.Token) api.Sig {
	r.want(":")
	return api.Sig{Name: name.Text, At: name.At, Type: typed(&r.place, tread.Scheme)}
}

// bind reads a bind, behind its name.
func (r *reader) bind(name lex.Token, body func() api.Exp) api.Bind {
	behind := r.lowers()
	if len(behind) > api.MaxArgs {
		refuse(api.ErrLong, name)
	}
	r.want("=")
	b := api.Bind{Name: name.Text, At: name.At, Body: body()}
	if len(behind) > 0 {
		b.Body = lambda(behind[0].At, behind, b.Body)
	}
	return b
}
