package tread_test

import (
	"slices"
	"strings"
	"testing"

	"fugue/api"
	"fugue/lex"
	"fugue/tread"
	"fugue/types"
)

// apart tells whether no two lists of these types share memory, their spare room among it.
func apart(l ...api.Type) bool {
	seen := map[*api.Type]bool{}
	var each func(l []api.Type) bool
	each = func(l []api.Type) bool {
		for i := range l[:cap(l)] {
			if p := &l[:cap(l)][i]; seen[p] {
				return false
			} else {
				seen[p] = true
			}
		}
		for _, t := range l {
			if !each(t.Args) {
				return false
			}
		}
		return true
	}
	return each(slices.Clone(l))
}

// spoil overwrites a type's memory, at every depth, its spare room, too.
func spoil(t api.Type) {
	for _, x := range t.Args {
		spoil(x)
	}
	for i := range t.Args[:cap(t.Args)] {
		t.Args[:cap(t.Args)][i] = con("Spoilt")
	}
}

// R4: tokens are left as they were, nothing of them is kept, and no two lists of an answer are one.
func TestMemory(t *testing.T) {
	const src = "(E (L a b), O (a -> b)) => (a -> b c) -> L (a b) (c) -> a"
	room := lex.Token{Kind: lex.Upper, Text: "Room"}
	want, _ := tread.ReadScheme(src)
	l := append(lexed(t, src), room, room, room)
	was := slices.Clone(l)
	l = l[:len(l)-3]
	x, _, e := tread.Scheme(l, 0)
	y, _, _ := tread.Scheme(l, 0)
	again, _, _ := tread.Preds(l, 0)
	if e != taken || !slices.Equal(l[:len(was)], was) {
		t.Error("tokens are changed:", l[:len(was)])
	}
	clear(l[:cap(l)])
	if !equalSchemes(x, want) {
		t.Error("tokens are kept:", x)
	}
	if !apart(x.Type, x.Preds[0].Type, x.Preds[1].Type, y.Type, y.Preds[0].Type, y.Preds[1].Type, again[0].Type, again[1].Type) {
		t.Error("lists share memory")
	}
	spoil(y.Type)
	spoil(y.Preds[0].Type)
	y.Vars[0], y.Preds[0].Class, y.Preds[1] = "q", "Q", api.Pred{}
	again[0], again[1] = api.Pred{}, api.Pred{}
	if !equalSchemes(x, want) {
		t.Error("two answers are one:", x)
	}
}

// Lists and places that the chapter does not allow are told no promise of, but nothing panics, and nothing is read that is not there.
func TestBadTokens(t *testing.T) {
	whole := lexed(t, "(E a, E b) => (a -> b) c")
	var lists [][]lex.Token
	for n := range len(whole) + 1 {
		lists = append(lists, whole[:n:n])
	}
	for _, text := range []string{"", "(", "->", "a"} {
		for kind := -1; kind <= lex.End+1; kind++ {
			lists = append(lists, []lex.Token{{Kind: kind, Text: text, N: 3, At: -5}}, []lex.Token{{Kind: kind, Text: text}, {Kind: lex.Lower, Text: "b", At: 7}})
		}
	}
	for _, l := range lists {
		for _, i := range []int{-1 << 63, -1, 0, 1, 2, 5, len(l) - 1, len(l), len(l) + 1, 1<<63 - 1} {
			_, _, one := tread.Type(l, i)
			_, _, two := tread.Atom(l, i)
			p, j, three := tread.Preds(l, i)
			s, _, four := tread.Scheme(l, i)
			if i >= 0 && i < len(l) {
				continue
			}
			if one.Errno != api.ErrSyntax || two != one || four != one || three != taken || len(p) != 0 || j != i || len(s.Vars) != 0 {
				t.Errorf("%v at %d: %v, %v, %v, %v, %d", l, i, one, two, three, four, j)
			}
		}
	}
}

// A row of very many tokens is gone through once, and brackets that never shut are not tried again and again.
func TestManyTokens(t *testing.T) {
	const n = 60000
	row := func(words ...string) []lex.Token {
		one := lexed(t, strings.Join(words, " "))
		one = one[:len(one)-1]
		l := slices.Repeat(one, n/len(one))
		return append(l, lex.Token{Kind: lex.Lower, Text: "z"}, lex.Token{Kind: lex.End})
	}
	for _, words := range [][]string{{"a"}, {"a", "->"}, {"L", "(", "a", ")", "->"}, {"(", "a", ")"}} {
		l := row(words...)
		x, i, e := tread.Type(l, 0)
		if e != taken || i != len(l)-1 {
			t.Errorf("%q: %d, %v", words, i, e)
		}
		if s, j, f := tread.Scheme(l, 0); f != taken || j != i || types.Size(s.Type) != types.Size(x) {
			t.Errorf("%q: %d, %v", words, j, f)
		}
	}
	l := slices.Concat(lexed(t, "(")[:1], row("E", "a", ","))
	l = append(l[:len(l)-3], lexed(t, ") => a")...)
	if _, _, e := tread.Preds(l, 0); e != refused(api.ErrLong, 0) {
		t.Error(e)
	}
	if _, _, e := tread.Type(row("("), 0); e.Errno != api.ErrDeep {
		t.Error(e)
	}
}
