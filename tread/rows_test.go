package tread_test

import (
	"reflect"
	"slices"
	"strings"
	"testing"

	"fugue/api"
	"fugue/lex"
	"fugue/tread"
	"fugue/types"
)

// rowsOf tells f all sources of up to so many of these words.
func rowsOf(most int, words []string, f func(row []string)) {
	var row []string
	var more func()
	more = func() {
		f(row)
		if len(row) == most {
			return
		}
		for _, w := range words {
			row = append(row, w)
			more()
			row = row[:len(row)-1]
		}
	}
	more()
}

// typeEnds goes through a row as a machine that counts brackets would: how many words a type may have, and whether it is done there.
func typeEnds(row []string) (int, bool) {
	open, wants := 0, true
	for i, w := range row {
		switch {
		case w == "E" || w == "a":
			wants = false
		case w == "(":
			open, wants = open+1, true
		case w == "->" && !wants:
			wants = true
		case w == ")" && !wants && open > 0:
			open--
		default:
			return i, !wants && open == 0
		}
	}
	return len(row), !wants && open == 0
}

func isType(row []string) bool {
	n, done := typeEnds(row)
	return done && n == len(row)
}

func isAtom(row []string) bool {
	n := len(row)
	return n == 1 && isType(row) || n > 2 && row[0] == "(" && row[n-1] == ")" && isType(row[1:n-1])
}

func isPred(row []string) bool { return len(row) > 1 && row[0] == "E" && isAtom(row[1:]) }

// isPreds tells whether a row is predicates, but for their =>: no comma stands in a type, so it may be cut at all of them.
func isPreds(row []string) bool {
	n := len(row)
	if isPred(row) {
		return true
	}
	if n < 2 || row[0] != "(" || row[n-1] != ")" {
		return false
	}
	for _, s := range strings.Split(strings.Join(row[1:n-1], " "), ",") {
		if !isPred(strings.Fields(s)) {
			return false
		}
	}
	return true
}

// predsEnd is how many words of a row are predicates and their =>; 0: none.
func predsEnd(row []string) int {
	if i := slices.Index(row, "=>"); i > 0 && isPreds(row[:i]) {
		return i + 1
	}
	return 0
}

// answer is what is to be told of a type from a place in a row on: its end, or its refusal.
func answer(l []lex.Token, row []string, i int) (int, api.At) {
	n, done := typeEnds(row[i:])
	if !done {
		return 0, refused(api.ErrSyntax, l[i+n].At)
	}
	return i + n, taken
}

// P5.1, P5.2: all short rows, by rules that are written down another way.
func TestAllRows(t *testing.T) {
	counts := [3]int{}
	rowsOf(6, []string{"E", "a", "(", ")", "->", "=>", ","}, func(row []string) {
		src := strings.Join(row, "  ")
		l := lexed(t, src)
		behind, want := answer(l, row, 0)
		x, i, e := tread.Type(l, 0)
		if i != behind || e != want || (x.Form == 0) != (want != taken) {
			t.Fatalf("%q: %v, %d, %v", src, x, i, e)
		}
		start := predsEnd(row)
		p, i, e := tread.Preds(l, 0)
		if i != start || e != taken || (len(p) == 0) != (start == 0) || start > 0 && len(p) != 1+strings.Count(strings.Join(row[:start], ""), ",") {
			t.Fatalf("%q: %v, %d, %v", src, p, i, e)
		}
		schemeBehind, schemeWant := answer(l, row, start)
		s, i, e := tread.Scheme(l, 0)
		if i != schemeBehind || e != schemeWant || e == taken && !equalPreds(s.Preds, p) || e != taken && !reflect.DeepEqual(s, api.Scheme{}) {
			t.Fatalf("%q: %v, %d, %v", src, s, i, e)
		}
		if want == taken && behind < len(row) {
			want = refused(api.ErrSyntax, l[behind].At)
		}
		if schemeWant == taken && schemeBehind < len(row) {
			schemeWant = refused(api.ErrSyntax, l[schemeBehind].At)
		}
		if y, e := tread.ReadType(src); e != want || !equal(y, x) && e == taken || e != taken && !reflect.DeepEqual(y, api.Type{}) {
			t.Fatalf("%q: %v, %v", src, y, e)
		}
		if y, e := tread.ReadScheme(src); e != schemeWant || e == taken && !equalSchemes(y, s) || e != taken && !reflect.DeepEqual(y, api.Scheme{}) {
			t.Fatalf("%q: %v, %v", src, y, e)
		}
		counts[0]++
		if want == taken {
			counts[1]++
		}
		if schemeWant == taken && start > 0 {
			counts[2]++
		}
	})
	if slices.Min(counts[:]) < 20 {
		t.Error("too few of a sort:", counts)
	}
}

// P5.1: an atom of all short rows, from the first word on.
func TestAllAtoms(t *testing.T) {
	rowsOf(6, []string{"E", "a", "(", ")", "->", "7"}, func(row []string) {
		l := lexed(t, strings.Join(row, " "))
		n := 1
		for n < len(row) && !isAtom(row[:n]) {
			n++
		}
		x, i, e := tread.Atom(l, 0)
		if n <= len(row) && isAtom(row[:n]) {
			whole, j, f := tread.Type(l[:n:n], 0)
			if i != n || e != taken || j != n || f != taken || !equal(x, whole) {
				t.Fatalf("%q: %v, %d, %v", row, x, i, e)
			}
			return
		}
		if _, want := answer(l, row, 0); i != 0 || e != want || !reflect.DeepEqual(x, api.Type{}) {
			t.Fatalf("%q: %v, %d, %v, not %v", row, x, i, e, want)
		}
	})
}

// sized is all types of up to so many nodes of these leaves.
func sized(most int, leaves ...api.Type) []api.Type {
	out := [][]api.Type{nil, leaves}
	for n := 2; n <= most; n++ {
		var l []api.Type
		for i := 1; i < n-1; i++ {
			for _, f := range out[i] {
				for _, x := range out[n-1-i] {
					l = append(l, app(f, x))
				}
			}
		}
		out = append(out, l)
	}
	return slices.Concat(out...)
}

// given tells whether each -> in a type is given two or more.
func given(t api.Type) bool {
	head, args := types.Spine(t)
	if head.Name == types.Arrow && len(args) < 2 {
		return false
	}
	for _, x := range args {
		if !given(x) {
			return false
		}
	}
	return true
}

// full is a type with brackets wherever they may stand.
func full(t api.Type) string {
	if from, to, is := types.Split(t); is {
		return "(" + full(from) + "->" + full(to) + ")"
	}
	if t.Form == api.TApp {
		return "(" + full(t.Args[0]) + full(t.Args[1]) + ")"
	}
	return "(" + t.Name + ")"
}

// P5.3: types are read of their print; and of any print with more brackets.
func TestReadOfPrint(t *testing.T) {
	all := sized(9, a, integer, con("->"))
	for _, x := range sized(3, a, b, fun(a, b), app(list, a), fun(fun(a, b), app(list, c))) {
		all = append(all, x, fun(x, x), app(x, x), fun(x, fun(a, x)))
	}
	n := 0
	for _, x := range all {
		if !given(x) {
			continue
		}
		n++
		for _, src := range []string{types.Print(x), full(x), "(" + types.Print(x) + ")"} {
			if got, e := tread.ReadType(src); e != taken || !equal(got, x) {
				t.Fatalf("%q: %v, %v", src, got, e)
			}
			if got, e := tread.ReadScheme(src); e != taken || !equal(got.Type, x) || len(got.Preds) != 0 || !slices.Equal(got.Vars, types.Free(x)) {
				t.Fatalf("%q: %v, %v", src, got, e)
			}
		}
	}
	if n < 500 {
		t.Error("too few:", n)
	}
}

// P5.3: a -> that is given none or one has a print that is no source of a type.
func TestArrowAlone(t *testing.T) {
	for _, x := range []api.Type{con("->"), app(con("->"), a), app(list, con("->")), fun(app(con("->"), a), b)} {
		if got, e := tread.ReadType(types.Print(x)); e.Errno != api.ErrSyntax || !reflect.DeepEqual(got, api.Type{}) {
			t.Errorf("%v: %v, %v", x, got, e)
		}
	}
}

// P5.3: a print that is as long, and as deep, as a source may be.
func TestReadOfLongPrint(t *testing.T) {
	wide, long, deep := list, a, a
	for range 1999 {
		wide = app(wide, a)
	}
	for range 799 {
		long = fun(a, long)
	}
	for i := range 40 {
		if deep = app(list, deep); i%2 == 0 && i < 38 {
			deep = fun(deep, b)
		}
	}
	for _, x := range []api.Type{wide, long, deep} {
		if got, e := tread.ReadType(types.Print(x)); e != taken || !equal(got, x) {
			t.Errorf("%.80s: %v", types.Print(x), e)
		}
	}
}
