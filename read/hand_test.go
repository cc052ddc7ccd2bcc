package read_test

import (
	"reflect"
	"slices"
	"strings"
	"testing"

	"fugue/api"
	"fugue/lex"
	"fugue/read"
	"fugue/types"
)

// span is a list's memory, its spare room among it.
type span struct{ from, to uintptr }

// spans adds the memory of all lists in a value to l.
func spans(l []span, v reflect.Value) []span {
	switch v.Kind() {
	case reflect.Slice:
		if v.Cap() > 0 {
			l = append(l, span{v.Pointer(), v.Pointer() + uintptr(v.Cap())*v.Type().Elem().Size()})
		}
		for i := range v.Len() {
			l = spans(l, v.Index(i))
		}
	case reflect.Struct:
		for i := range v.NumField() {
			l = spans(l, v.Field(i))
		}
	}
	return l
}

// R4: no two lists of an answer share memory, nor do two answers.
func TestMemory(t *testing.T) {
	var l []span
	var kept []api.Program
	for seed := range 40 {
		m := &maker{seed: uint64(seed)}
		m.program()
		for range 2 {
			p, _ := read.Program(m.out.String())
			kept = append(kept, p)
			l = spans(l, reflect.ValueOf(p))
		}
	}
	slices.SortFunc(l, func(x, y span) int { return int(x.from) - int(y.from) })
	for i := 1; i < len(l); i++ {
		if l[i].from < l[i-1].to {
			t.Fatal("lists share memory:", l[i-1], l[i])
		}
	}
	if len(l) < 200 {
		t.Error("too few:", len(l), len(kept))
	}
}

// R4: what is printed is left as it was, spare room and all.
func TestPrintLeaves(t *testing.T) {
	const src = "data L a = N | C a (L a) ; class (E a, S a) => O a { less : P b => a -> b } ; instance E a => E (L a) { same x y = x } ; f : E a => a ; f x y = case g (h y) of { C (C _ b) 3 -> f (x : a) }"
	p, _ := read.Program(src)
	q, _ := read.Program(src)
	preds := append(make([]api.Pred, 0, 5), p.Classes[0].Methods[0].Type.Preds...)
	room := append(preds, pred("Room", types.Var("room")))
	p.Classes[0].Methods[0].Type.Preds = preds
	if read.Print(p) != read.Print(q) || !reflect.DeepEqual(p, q) || room[2].Class != "Room" {
		t.Error("changed:", p, room)
	}
}

// T8, R1, R2: any bytes, and any tokens, are something or are refused at a place within; beside a refusal stands nothing.
func TestAnySource(t *testing.T) {
	m := &maker{seed: 7}
	words := append(lex.Keys(), "x", "y", "C", "D", "1", "->", "=>", "\\", "=", "|", "(", ")", "{", "}", ";", ":", ",", "_", "x =", "data C = C", "class K x {", "instance K C {", "let { x = 1 } in", "case x of { _ ->", "x : x ;", "f x = ")
	seen := map[api.Errno]int{}
	for i := range 60000 {
		var src strings.Builder
		for range m.chance(30) {
			if i%3 == 0 {
				src.WriteByte(byte(m.chance(256)))
			} else {
				src.WriteString(words[m.chance(len(words))] + " ")
			}
		}
		s := src.String()
		p, one := read.Program(s)
		e, two := read.Exp(s)
		x, three := read.Pat(s)
		for _, at := range []api.At{one, two, three} {
			seen[at.Errno]++
			if at.At < 0 || at.At > len(s) || at.Errno == api.OK && at.At != 0 {
				t.Fatalf("%q: %v", s, at)
			}
		}
		if one != taken && !reflect.DeepEqual(p, api.Program{}) || two != taken && !reflect.DeepEqual(e, api.Exp{}) || three != taken && !reflect.DeepEqual(x, api.Pat{}) {
			t.Fatalf("%q: %v, %v, %v", s, p, e, x)
		}
	}
	for _, e := range []api.Errno{api.OK, api.ErrChar, api.ErrSyntax, api.ErrNone} {
		if seen[e] < 10 {
			t.Error("too few:", e, seen)
		}
	}
}

// T8: each beginning of a source, and each source without one of its tokens, ends in an answer, too.
func TestCutSources(t *testing.T) {
	for seed := range 30 {
		m := &maker{seed: uint64(seed)}
		m.program()
		s := m.out.String()
		for n := range min(len(s), api.MaxSource) {
			if _, at := read.Program(s[:n]); at.At < 0 || at.At > n {
				t.Fatalf("%q: %v", s[:n], at)
			}
		}
		l, _ := lex.Lex(s)
		for i := range l {
			src := lex.Print(slices.Delete(slices.Clone(l), i, i+1))
			if _, at := read.Program(src); at.At < 0 || at.At > len(src) {
				t.Fatalf("%q: %v", src, at)
			}
		}
	}
}
