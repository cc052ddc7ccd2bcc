package read

import (
	"fugue/api"
	"fugue/lex"
)

// place is where a reader stands among tokens. Their end is never gone behind.
type place struct {
	tokens []lex.Token
	next   int
}

// reader goes through tokens by the rules of the language: each method that reads leaves the place behind what it read.
type reader struct {
	place
	within int // how many expressions are around the one that is read
	open   int // how many brackets of a pattern are open
}

// refuse gives up, at a token.
func refuse(e api.Errno, t lex.Token) { panic(api.At{Errno: e, At: t.At}) }

func (p *place) token() lex.Token { return p.tokens[p.next] }

// takes goes behind a symbol or a key, if it is next; no token of another kind has such a text.
func (p *place) takes(text string) bool {
	if p.token().Text != text {
		return false
	}
	p.next++
	return true
}

// want goes behind a symbol or a key, which must be next.
func (p *place) want(text string) {
	if !p.takes(text) {
		refuse(api.ErrSyntax, p.token())
	}
}

// name reads a token that must be of that kind.
func (p *place) name(kind int) lex.Token {
	t := p.token()
	if t.Kind != kind {
		refuse(api.ErrSyntax, t)
	}
	p.next++
	return t
}

// lowers reads lower names, as many as there are.
func (p *place) lowers() []lex.Token {
	var l []lex.Token
	for p.token().Kind == lex.Lower {
		l = append(l, p.name(lex.Lower))
	}
	return l
}

// row reads what stands between semicolons, or nothing there, as long as ends does not tell that it is over.
func (p *place) row(ends, begins func(t lex.Token) bool, one func()) {
	for count := 0; ; count++ {
		for p.takes(";") {
		}
		t := p.token()
		switch {
		case ends(t):
			return
		case !begins(t):
			refuse(api.ErrSyntax, t)
		case count == api.MaxDecls:
			refuse(api.ErrLong, t)
		}
		one()
		if t := p.token(); t.Text != ";" && !ends(t) {
			refuse(api.ErrSyntax, t)
		}
	}
}

// braces reads a row in braces, and tells the shut one.
func (p *place) braces(begins func(t lex.Token) bool, one func()) lex.Token {
	p.want("{")
	p.row(func(t lex.Token) bool { return t.Text == "}" }, begins, one)
	shut := p.token()
	p.want("}")
	return shut
}

// typed is what a function of tread reads, or refuses, at a place.
func typed[T any](p *place, read func(l []lex.Token, i int) (T, int, api.At)) T {
	t, behind, at := read(p.tokens, p.next)
	if at != (api.At{}) {
		panic(at)
	}
	p.next = behind
	return t
}

// texts is the names' texts.
func texts(l []lex.Token) []string {
	var out []string
	for _, t := range l {
		out = append(out, t.Text)
	}
	return out
}

// The tokens with which something may begin.

func beginsName(t lex.Token) bool { return t.Kind == lex.Lower }

func beginsDecl(t lex.Token) bool {
	return beginsName(t) || t.Text == "data" || t.Text == "class" || t.Text == "instance"
}

func beginsType(t lex.Token) bool { return beginsName(t) || t.Kind == lex.Upper || t.Text == "(" }

func beginsGiven(t lex.Token) bool { return beginsType(t) || t.Kind == lex.Int }

func beginsExp(t lex.Token) bool {
	return beginsGiven(t) || t.Text == "\\" || t.Text == "let" || t.Text == "case"
}

func beginsPat(t lex.Token) bool { return beginsGiven(t) || t.Text == "_" }
