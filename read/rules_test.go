package read_test

import (
	"reflect"
	"slices"
	"strings"
	"testing"

	"fugue/api"
	"fugue/read"
)

// language is DOC.md's rules, as they are written there but for rows; a word that has no rule is a token. PREDS is predicates with their =>.
const language = `
program = decl? | program ; decl?
decl? = | decl
decl = data C vars = cons | class PREDS? C x { sigs } | instance PREDS? C head { binds } | sig | bind
PREDS? = | PREDS
vars = | vars x
cons = con | cons BAR con
con = C atoms
atoms = | atoms atom
head = C | ( C vars )
sigs = sig? | sigs ; sig?
sig? = | sig
binds = bind? | binds ; bind?
bind? = | bind
values = value? | values ; value?
value? = | sig | bind
sig = x : PREDS? type
bind = x vars = exp
type = btype -> type | btype
btype = atom | btype atom
atom = C | x | ( type )
exp = \ x vars -> exp | let { values } in exp | case exp of { alts } | fexp : PREDS? type | fexp
alts = alt | ; alts | alts ; | alts ; alt
alt = pat -> exp
fexp = aexp | fexp aexp
aexp = x | C | 1 | ( exp )
pat = C apats | apat
apats = | apats apat
apat = x | _ | 1 | C | ( pat )
`

type production struct {
	of string
	to []string
}

// item is a rule that is done up to a word, begun behind so many tokens.
type item struct{ rule, done, from int }

// chart goes through tokens, and knows all that may stand there by the rules.
type chart struct {
	rules []production
	heads map[string]bool
	sets  [][]item
}

func newChart(start string) *chart {
	c := &chart{heads: map[string]bool{}}
	for _, line := range strings.Split(strings.TrimSpace(language), "\n") {
		of, sides, _ := strings.Cut(line, " =")
		c.heads[of] = true
		for _, side := range strings.Split(sides, "|") {
			var to []string
			for _, w := range strings.Fields(side) {
				to = append(to, strings.ReplaceAll(w, "BAR", "|"))
			}
			c.rules = append(c.rules, production{of, to})
		}
	}
	var first []item
	for i, r := range c.rules {
		if r.of == start {
			first = append(first, item{rule: i})
		}
	}
	c.sets = [][]item{c.closed(first)}
	return c
}

// next is the word that an item waits for; none, if it is done.
func (c *chart) next(x item) string {
	if to := c.rules[x.rule].to; x.done < len(to) {
		return to[x.done]
	}
	return ""
}

// closed is a set of items with all that follow of it.
func (c *chart) closed(l []item) []item {
	at := len(c.sets)
	seen := map[item]bool{}
	for _, x := range l {
		seen[x] = true
	}
	add := func(x item) {
		if !seen[x] {
			seen[x] = true
			l = append(l, x)
		}
	}
	for n := -1; n != len(l); {
		n = len(l)
		for i := 0; i < len(l); i++ {
			x := l[i]
			w := c.next(x)
			for j, r := range c.rules {
				if r.of == w {
					add(item{rule: j, from: at})
				}
			}
			if w != "" {
				continue
			}
			origin := l
			if x.from < at {
				origin = c.sets[x.from]
			}
			for _, y := range origin {
				if c.next(y) == c.rules[x.rule].of {
					add(item{y.rule, y.done + 1, y.from})
				}
			}
		}
	}
	return l
}

// takes goes behind a token, if it may stand there.
func (c *chart) takes(token string) bool {
	var l []item
	for _, x := range c.sets[len(c.sets)-1] {
		if c.next(x) == token {
			l = append(l, item{x.rule, x.done + 1, x.from})
		}
	}
	if len(l) == 0 {
		return false
	}
	c.sets = append(c.sets, c.closed(l))
	return true
}

func (c *chart) back() { c.sets = c.sets[:len(c.sets)-1] }

// whole tells whether the tokens may end here.
func (c *chart) whole(start string) bool {
	return slices.ContainsFunc(c.sets[len(c.sets)-1], func(x item) bool {
		return c.rules[x.rule].of == start && x.from == 0 && c.next(x) == ""
	})
}

const predicates = "(E x, F x) =>"

// ofSigs tells whether an answer is of a sig at that place, in a row that may go on at least up to the moment at which that is told.
func ofSigs(src string, at api.At, first int) bool {
	if at.Errno != api.ErrNone && at.Errno != api.ErrTwice {
		return false
	}
	return strings.HasPrefix(src[at.At:], "x :") && at.At < first && (first > len(src) || strings.Contains(src[at.At:first], "}"))
}

// rowsOf goes through all rows that the rules allow, behind begin and with at most so many words more: such a row is taken if it is whole, and refused at its end if not; each token that may not stand behind it is refused there.
func rowsOf(t *testing.T, start, begin, words string, most int, answer func(src string) api.At) (whole, refusals int) {
	c := newChart(start)
	for _, w := range strings.Fields(begin) {
		if !c.takes(w) {
			t.Fatal(begin, w)
		}
	}
	holds := func(src string, want api.At, first int) {
		if at := answer(src); at != want && !ofSigs(src, at, first) {
			t.Fatalf("%q: %v, not %v", src, at, want)
		}
	}
	var more func(src string, n int)
	more = func(src string, n int) {
		if c.whole(start) {
			whole++
			holds(src, taken, len(src)+1)
		} else {
			holds(src, refused(api.ErrSyntax, len(src)), len(src))
		}
		src += " "
		for _, w := range strings.Fields(words) {
			switch {
			case c.takes(w):
				if n < most {
					more(src+strings.ReplaceAll(w, "PREDS", predicates), n+1)
				}
				c.back()
			case w != "PREDS": // their own first tokens might stand there
				refusals++
				holds(src+w+[]string{"", " )", " x", " = 1 ; ("}[refusals%4], refused(api.ErrSyntax, len(src)), len(src))
			}
		}
	}
	more(begin, 0)
	return whole, refusals
}

// P6.1: all short rows, by rules that are gone through another way.
func TestAllRows(t *testing.T) {
	exp := func(src string) api.At {
		e, at := read.Exp(src)
		if (at == taken) == reflect.DeepEqual(e, api.Exp{}) {
			t.Fatalf("%q: %v, %v", src, e, at)
		}
		return at
	}
	pat := func(src string) api.At {
		p, at := read.Pat(src)
		if (at == taken) == reflect.DeepEqual(p, api.Pat{}) {
			t.Fatalf("%q: %v, %v", src, p, at)
		}
		return at
	}
	program := func(src string) api.At {
		p, at := read.Program(src)
		if at != taken && !reflect.DeepEqual(p, api.Program{}) {
			t.Fatalf("%q: %v, %v", src, p, at)
		}
		return at
	}
	const all = `x C 1 ( ) \ -> => : = | , ; { } data class instance let in case of _`
	const some = `x C 1 ( ) -> : = | ; { } data PREDS`
	for _, x := range []struct {
		start, begin, words string
		most, least         int
		answer              func(src string) api.At
	}{
		{"pat", "", "x C 1 ( ) _ -> let", 6, 500, pat},
		{"exp", "", strings.ReplaceAll(all, " =>", ""), 5, 200, exp},
		{"exp", "let { x", "x 1 : = ; { } ( ) in", 6, 10, exp},
		{"exp", "case x of {", "x C 1 _ ( ) -> ; }", 6, 20, exp},
		{"exp", "case x of { x ->", "x C ( ) : -> ; { } of", 5, 50, exp},
		{"exp", "\\ x", "x C ( ) : -> \\", 6, 100, exp},
		{"program", "", strings.ReplaceAll(all, " =>", "") + " PREDS", 5, 50, program},
		{"program", "data C", some, 5, 50, program},
		{"program", "data C = C", some, 4, 50, program},
		{"program", "class", some, 7, 1, program},
		{"program", "class C x {", some, 6, 20, program},
		{"program", "instance C", some, 7, 5, program},
		{"program", "instance C C {", some, 6, 20, program},
		{"program", "x = x ;", some, 5, 50, program},
	} {
		whole, refusals := rowsOf(t, x.start, x.begin, x.words, x.most, x.answer)
		if whole < x.least || refusals < 10*x.least {
			t.Error("too few:", x.start, x.begin, whole, refusals)
		}
	}
}
