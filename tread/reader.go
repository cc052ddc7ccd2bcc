package tread

import (
	"fugue/api"
	"fugue/lex"
	"fugue/types"
)

// reader goes through tokens by the chapter's rules: each method that reads leaves the place behind what it read.
type reader struct {
	tokens []lex.Token
	place  int
	open   int // how many brackets are open
}

// token is the one that is next. Where there is none, it is an end, so that no list and no place makes a call panic.
func (r *reader) token() lex.Token {
	if 0 <= r.place && r.place < len(r.tokens) {
		return r.tokens[r.place]
	}
	end := lex.Token{Kind: lex.End}
	if n := len(r.tokens); n > 0 {
		end.At = r.tokens[n-1].At + len(r.tokens[n-1].Text)
	}
	return end
}

// takes goes behind a symbol, if it is next.
func (r *reader) takes(text string) bool {
	if !symbol(r.token(), text) {
		return false
	}
	r.place++
	return true
}

// symbol tells whether a token is that symbol, wherever it stands.
func symbol(t lex.Token, text string) bool {
	return t == lex.Token{Kind: lex.Symbol, Text: text, At: t.At}
}

// function reads a type; the rule's right side in a loop, as there may be very many of them.
func (r *reader) function() (api.Type, api.At) {
	var from []api.Type
	for {
		t, at := r.application()
		if at != (api.At{}) {
			return api.Type{}, at
		}
		if !r.takes(types.Arrow) {
			return types.Fun(t, from...), api.At{}
		}
		from = append(from, t)
	}
}

// application reads a btype.
func (r *reader) application() (api.Type, api.At) {
	begins := func() bool {
		t := r.token()
		return t.Kind == lex.Upper || t.Kind == lex.Lower || symbol(t, "(")
	}
	first, at := r.atom()
	var others []api.Type
	for at == (api.At{}) && begins() {
		var t api.Type
		t, at = r.atom()
		others = append(others, t)
	}
	if at != (api.At{}) {
		return api.Type{}, at
	}
	return types.App(first, others...), api.At{}
}

func (r *reader) atom() (api.Type, api.At) {
	t := r.token()
	switch {
	case t.Kind == lex.Upper:
		r.place++
		return types.Con(t.Text), api.At{}
	case t.Kind == lex.Lower:
		r.place++
		return types.Var(t.Text), api.At{}
	case symbol(t, "("):
		return r.inBrackets()
	}
	return api.Type{}, refusal(api.ErrSyntax, t)
}

// inBrackets reads a type from its bracket on.
func (r *reader) inBrackets() (api.Type, api.At) {
	if r.open == api.MaxNested {
		return api.Type{}, refusal(api.ErrDeep, r.token())
	}
	r.place++
	r.open++
	t, at := r.function()
	if at != (api.At{}) {
		return api.Type{}, at
	}
	if !r.takes(")") {
		return api.Type{}, refusal(api.ErrSyntax, r.token())
	}
	r.open--
	return t, api.At{}
}

// preds reads predicates and their =>; false, if they do not stand there, for whatever reason.
func (r *reader) preds() ([]api.Pred, bool) {
	brackets := r.takes("(")
	if brackets {
		r.open++
	}
	var preds []api.Pred
	for {
		p, is := r.pred()
		if !is {
			return nil, false
		}
		preds = append(preds, p)
		if !brackets || !r.takes(",") {
			break
		}
	}
	if brackets && !r.takes(")") {
		return nil, false
	}
	return preds, r.takes("=>")
}

func (r *reader) pred() (api.Pred, bool) {
	class := r.token()
	if class.Kind != lex.Upper {
		return api.Pred{}, false
	}
	r.place++
	t, at := r.atom()
	return api.Pred{Class: class.Text, Type: t}, at == (api.At{})
}
