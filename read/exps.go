package read

import (
	"fugue/api"
	"fugue/lex"
	"fugue/tread"
)

func (r *reader) exp() api.Exp {
	first := r.token()
	switch {
	case r.takes("\\"):
		return r.function(first)
	case r.takes("let"):
		return r.let(first)
	case r.takes("case"):
		return r.choice(first)
	}
	e := r.application()
	if !r.takes(":") {
		return e
	}
	return api.Exp{Form: api.EAnn, At: first.At, Kids: []api.Exp{e}, Sig: typed(&r.place, tread.Scheme)}
}

// inner reads an expression that is further within by one.
func (r *reader) inner() api.Exp {
	// What begins no expression is none that is too deep: exp refuses it as it does elsewhere.
	if t := r.token(); r.within == api.MaxNested && beginsExp(t) {
		refuse(api.ErrDeep, t)
	}
	r.within++
	e := r.exp()
	r.within--
	return e
}

// function reads a lambda, behind its first token.
func (r *reader) function(first lex.Token) api.Exp {
	names := append([]lex.Token{r.name(lex.Lower)}, r.lowers()...)
	if len(names) > api.MaxArgs {
		refuse(api.ErrLong, first)
	}
	r.want("->")
	return lambda(first.At, names, r.inner())
}

func lambda(at int, names []lex.Token, body api.Exp) api.Exp {
	e := api.Exp{Form: api.ELam, At: at, Kids: []api.Exp{body}}
	for _, t := range names {
		e.Pats = append(e.Pats, api.Pat{Form: api.PVar, At: t.At, Name: t.Text})
	}
	return e
}

// let reads a let, behind its first token.
func (r *reader) let(first lex.Token) api.Exp {
	var own values
	r.braces(beginsName, func() { r.value(&own, r.inner) })
	binds := own.signed() // refused ahead of what stands behind the brace
	r.want("in")
	return api.Exp{Form: api.ELet, At: first.At, Binds: binds, Kids: []api.Exp{r.inner()}}
}

// choice reads a case, behind its first token.
func (r *reader) choice(first lex.Token) api.Exp {
	e := api.Exp{Form: api.ECase, At: first.At, Kids: []api.Exp{r.inner()}}
	r.want("of")
	shut := r.braces(beginsPat, func() {
		e.Pats = append(e.Pats, r.pat())
		r.want("->")
		e.Kids = append(e.Kids, r.inner())
	})
	if len(e.Pats) == 0 {
		refuse(api.ErrSyntax, shut)
	}
	return e
}

// application reads an fexp.
func (r *reader) application() api.Exp {
	first := r.token()
	e := r.given()
	for beginsGiven(r.token()) {
		e = api.Exp{Form: api.EApp, At: first.At, Kids: []api.Exp{e, r.given()}}
	}
	return e
}

// given reads an aexp.
func (r *reader) given() api.Exp {
	t := r.token()
	switch {
	case t.Kind == lex.Lower:
		return api.Exp{Form: api.EVar, At: t.At, Name: r.name(lex.Lower).Text}
	case t.Kind == lex.Upper:
		return api.Exp{Form: api.ECon, At: t.At, Name: r.name(lex.Upper).Text}
	case t.Kind == lex.Int:
		return api.Exp{Form: api.EInt, At: t.At, N: r.name(lex.Int).N}
	}
	r.want("(")
	e := r.inner()
	r.want(")")
	return e
}

func (r *reader) pat() api.Pat {
	t := r.token()
	p := r.simple()
	if t.Kind != lex.Upper {
		return p
	}
	for beginsPat(r.token()) {
		p.Kids = append(p.Kids, r.simple())
	}
	return p
}

// simple reads an apat.
func (r *reader) simple() api.Pat {
	t := r.token()
	switch {
	case t.Kind == lex.Lower:
		return api.Pat{Form: api.PVar, At: t.At, Name: r.name(lex.Lower).Text}
	case t.Kind == lex.Upper:
		return api.Pat{Form: api.PCon, At: t.At, Name: r.name(lex.Upper).Text}
	case t.Kind == lex.Int:
		return api.Pat{Form: api.PInt, At: t.At, N: r.name(lex.Int).N}
	case r.takes("_"):
		return api.Pat{Form: api.PWild, At: t.At}
	case t.Text == "(" && r.open == api.MaxNested:
		refuse(api.ErrDeep, t)
	}
	r.want("(")
	r.open++
	p := r.pat()
	r.want(")")
	r.open--
	return p
}
