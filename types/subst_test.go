package types_test

import (
	"slices"
	"strconv"
	"testing"

	"fugue/api"
	"fugue/chars"
	"fugue/types"
)

type put struct {
	name string
	by   api.Type
}

func lists(l []put) ([]string, []api.Type) {
	var names []string
	var by []api.Type
	for _, p := range l {
		names, by = append(names, p.name), append(by, p.by)
	}
	return names, by
}

// P4.3: what is put where, and which names a TAll gets.
func TestSubst(t *testing.T) {
	d, e, x := tv("d"), tv("e"), tv("x")
	for i, y := range []struct {
		t    api.Type
		puts []put
		want api.Type
	}{
		{a, nil, a},
		{a, []put{{"a", integer}}, integer},
		{a, []put{{"b", integer}}, a},
		{con("a"), []put{{"a", integer}}, con("a")},
		{meta(1), []put{{"a", integer}, {"1", b}, {"?1", b}, {"", b}}, meta(1)},
		{api.Type{}, []put{{"", integer}}, api.Type{}},
		{a, []put{{"a", a}}, a},
		{a, []put{{"a", app(a, a)}}, app(a, a)},
		{fun(a, fun(b, a)), []put{{"a", app(b, c)}}, fun(app(b, c), fun(b, app(b, c)))},
		// All are put in at once: what is put in is not gone through.
		{fun(a, b), []put{{"a", b}, {"b", a}}, fun(b, a)},
		{fun(a, b), []put{{"b", a}, {"a", b}}, fun(b, a)},
		{fun(a, fun(b, c)), []put{{"a", b}, {"b", c}, {"c", a}}, fun(b, fun(c, a))},
		// A TAll of one of names: nothing is put in that one's place within; others are.
		{all("a", a), []put{{"a", integer}}, all("a", a)},
		{all("a", fun(a, b)), []put{{"a", integer}}, all("a", fun(a, b))},
		{all("a", fun(a, b)), []put{{"a", integer}, {"b", c}}, all("a", fun(a, c))},
		{fun(a, all("a", a)), []put{{"a", integer}}, fun(integer, all("a", a))},
		{fun(all("a", a), a), []put{{"a", integer}}, fun(all("a", a), integer)},
		{all("b", fun(all("a", a), a)), []put{{"a", integer}}, all("b", fun(all("a", a), integer))},
		// A TAll that would catch gets another name.
		{all("a", fun(a, b)), []put{{"b", a}}, all("c", fun(c, a))},
		{all("a", b), []put{{"b", a}}, all("c", a)},
		{all("x", fun(x, b)), []put{{"b", x}}, all("a", fun(a, x))},
		{all("x", fun(x, a)), []put{{"a", x}}, all("b", fun(b, x))},
		{all("a", fun(a, b)), []put{{"b", fun(a, c)}}, all("d", fun(d, fun(a, c)))},
		{all("a", fun(a, fun(b, fun(c, e)))), []put{{"b", fun(a, d)}}, all("f", fun(tv("f"), fun(fun(a, d), fun(c, e))))},
		{all("a", fun(a, fun(b, d))), []put{{"b", a}}, all("c", fun(c, fun(a, d)))},
		// One that would not keeps its own: what it is not put into, what is not free in what is put in.
		{all("a", a), []put{{"b", a}}, all("a", a)},
		{all("a", fun(a, c)), []put{{"b", a}}, all("a", fun(a, c))},
		{all("a", fun(a, b)), []put{{"b", all("a", a)}}, all("a", fun(a, all("a", a)))},
		{all("a", fun(a, b)), []put{{"b", con("a")}}, all("a", fun(a, con("a")))},
		{all("a", fun(a, all("b", b))), []put{{"b", a}}, all("a", fun(a, all("b", b)))},
		{all("a", fun(a, b)), []put{{"b", c}, {"c", a}}, all("a", fun(a, c))},
		{all("a", fun(a, b)), []put{{"b", c}, {"a", a}}, all("a", fun(a, c))},
		// What takes letters is what is free in the body (what is put out of it, too), and in what is put into it alone.
		{all("a", fun(a, b)), []put{{"b", a}, {"d", c}}, all("c", fun(c, a))},
		{all("a", fun(a, fun(b, d))), []put{{"b", a}, {"d", c}}, all("e", fun(e, fun(a, c)))},
		{all("a", fun(b, all("c", c))), []put{{"b", a}}, all("c", fun(a, all("c", c)))},
		{all("a", fun(b, all("c", fun(a, c)))), []put{{"b", a}}, all("c", fun(a, all("b", fun(c, b))))},
		{fun(c, all("a", b)), []put{{"b", a}}, fun(c, all("c", a))},
		{fun(all("a", b), c), []put{{"b", a}}, fun(all("c", a), c)},
		// A new name is put in, too: a TAll within that would catch it gets another one.
		{all("a", all("c", fun(b, fun(a, c)))), []put{{"b", a}}, all("c", all("d", fun(a, fun(c, d))))},
		{all("a", all("c", fun(b, c))), []put{{"b", a}}, all("c", all("c", fun(a, c)))},
		{all("a", all("c", fun(a, c))), []put{{"b", a}}, all("a", all("c", fun(a, c)))},
		{all("a", fun(b, all("a", a))), []put{{"b", a}}, all("c", fun(a, all("a", a)))},
		{all("a", all("a", fun(a, b))), []put{{"b", a}}, all("c", all("c", fun(c, a)))},
		{all("a", fun(app(all("c", app(app(a, c), e)), b), b)), []put{{"b", a}, {"e", b}}, all("c", fun(app(all("d", app(app(c, d), b)), a), a))},
		{all("a", all("b", all("c", fun(a, fun(b, fun(c, x)))))), []put{{"x", a}}, all("b", all("c", all("d", fun(b, fun(c, fun(d, a))))))},
		{all("a", all("b", all("c", fun(a, fun(c, x))))), []put{{"x", a}}, all("b", all("c", all("c", fun(b, fun(c, a)))))},
	} {
		names, by := lists(y.puts)
		if got := types.Subst(y.t, names, by); !equal(got, y.want) {
			t.Errorf("%d: %q, not %q", i, types.Print(got), types.Print(y.want))
		}
	}
}

// substituted is Subst by the document's words, as they stand: each body gone through for itself.
func substituted(t api.Type, puts []put) api.Type {
	switch t.Form {
	case api.TVar:
		for _, p := range puts {
			if p.name == t.Name {
				return p.by
			}
		}
		return t
	case api.TApp:
		return app(substituted(t.Args[0], puts), substituted(t.Args[1], puts))
	case api.TAll:
		var into []put
		var taken []string
		body := freeOf(t.Args[0])
		for _, p := range puts {
			if p.name != t.Name && slices.Contains(body, p.name) {
				into, taken = append(into, p), append(taken, freeOf(p.by)...)
			}
		}
		name := t.Name
		if slices.Contains(taken, name) {
			n := 0
			for slices.Contains(body, chars.Letters(n)) || slices.Contains(taken, chars.Letters(n)) {
				n++
			}
			name = chars.Letters(n)
			into = append(into, put{t.Name, tv(name)})
		}
		return all(name, substituted(t.Args[0], into))
	}
	return t
}

// look holds one Subst against the words, the nameless meaning, and what must be free.
func look(t *testing.T, x api.Type, puts []put) {
	names, by := lists(puts)
	got := types.Subst(x, names, by)
	if want := substituted(x, puts); !equal(got, want) {
		t.Fatalf("%q, %v: %q, not %q", types.Print(x), puts, types.Print(got), types.Print(want))
	}
	want := nameless(x, nil, func(name string) string {
		for _, p := range puts {
			if p.name == name {
				return nameless(p.by, nil, itself)
			}
		}
		return itself(name)
	})
	if nameless(got, nil, itself) != want {
		t.Fatalf("%q, %v: %q catches", types.Print(x), puts, types.Print(got))
	}
	var free []string
	for _, name := range types.Free(x) {
		if i := slices.Index(names, name); i >= 0 {
			free = append(free, types.Free(by[i])...)
		} else {
			free = append(free, name)
		}
	}
	told := types.Free(got)
	for _, name := range free {
		if !slices.Contains(told, name) {
			t.Fatalf("%q, %v: %q is free no more", types.Print(x), puts, name)
		}
	}
	for _, name := range told {
		if !slices.Contains(free, name) {
			t.Fatalf("%q, %v: %q is free", types.Print(x), puts, name)
		}
	}
}

// P4.3, P4.5: all small types of variables, and many things to be put in.
func TestSubstOfAll(t *testing.T) {
	bys := []api.Type{a, b, c, tv("d"), app(a, b), app(c, a), all("a", app(a, b)), all("b", app(a, b)), integer}
	var rows [][]put
	for _, x := range bys {
		rows = append(rows, []put{{"a", x}}, []put{{"b", x}}, []put{{"z", x}})
		for _, y := range bys[:6] {
			rows = append(rows, []put{{"a", x}, {"b", y}})
		}
	}
	rows = append(rows, nil, []put{{"a", b}, {"b", c}, {"c", a}}, []put{{"c", app(a, b)}, {"b", a}, {"a", b}})
	for n, l := range sized(6, []api.Type{a, b, c}, "a", "b", "c") {
		for i, x := range l {
			for j, row := range rows {
				if n < 6 || (i+j)%5 == 0 {
					look(t, x, row)
				}
			}
		}
	}
}

// chance is a row of numbers that is always the same one.
type chance uint64

func (r *chance) next(n int) int {
	*r = *r*6364136223846793005 + 1442695040888963407
	return int(uint64(*r)>>33) % n
}

// some is a type of about so many nodes.
func (r *chance) some(size int, names []string) api.Type {
	if size <= 1 {
		switch r.next(8) {
		case 0:
			return meta(r.next(3))
		case 1:
			return integer
		}
		return tv(names[r.next(len(names))])
	}
	if r.next(2) == 0 {
		return all(names[r.next(len(names))], r.some(size-1, names))
	}
	left := 1 + r.next(size-1)
	return app(r.some(left, names), r.some(size-left, names))
}

// P4.3, P4.5: greater types, more names.
func TestSubstOfSome(t *testing.T) {
	r := chance(7)
	names := []string{"a", "b", "c", "d", "e", "x"}
	for range 30000 {
		var puts []put
		for _, name := range names[:r.next(len(names))] {
			if r.next(3) > 0 {
				puts = append(puts, put{name, r.some(1+r.next(4), names)})
			}
		}
		look(t, r.some(1+r.next(24), names), puts)
	}
}

// P4.3: the letters behind z.
func TestSubstBehindZ(t *testing.T) {
	for _, n := range []int{1, 2, 25, 26, 27, 52, 60} {
		// All of n letters are free in the body; the last of them is put in, and is the TAll's name.
		body, last := tv("q@"), chars.Letters(n-1)
		for i := range n - 1 {
			body = app(body, tv(chars.Letters(i)))
		}
		got := types.Subst(all(last, body), []string{"q@"}, []api.Type{tv(last)})
		if got.Name != chars.Letters(n) {
			t.Errorf("%d letters: %q", n, got.Name)
		}
		// All of n letters are free in what is put in.
		by := tv(last)
		for i := range n - 1 {
			by = app(by, tv(chars.Letters(i)))
		}
		got = types.Subst(all(last, tv("q@")), []string{"q@"}, []api.Type{by})
		if got.Name != chars.Letters(n) || !equal(got.Args[0], by) {
			t.Errorf("%d letters put in: %q", n, got.Name)
		}
	}
}

// R4: what is put in twice is in memory of its own each time, and what is handed in is left as it was.
func TestSubstInMemoryOfItsOwn(t *testing.T) {
	some := slices.Concat(sized(4, []api.Type{a, b, integer}, "a", "b")...)
	for _, x := range some {
		puts := []put{{"a", app(b, app(a, b))}, {"b", all("b", fun(a, b))}}
		names, by := lists(puts)
		names = append(names, "room")[:2]
		in, list := roomy(x), roomyList(by)
		got := types.Subst(in, names, list)
		if !kept(in, x) || !keptList(list, by) || !slices.Equal(names[:3], []string{"a", "b", "room"}) {
			t.Fatalf("%v is changed", x)
		}
		spoil(in)
		spoil(api.Type{Args: list})
		if !equal(got, substituted(x, puts)) || !apart(got) {
			t.Fatalf("memory of %v is kept: %v", x, got)
		}
	}
}

// R5: the row of names changes nothing.
func TestSubstInAnyRow(t *testing.T) {
	r := chance(11)
	names := []string{"a", "b", "c", "d"}
	for range 3000 {
		x := r.some(1+r.next(16), names)
		var puts []put
		for _, name := range names {
			puts = append(puts, put{name, r.some(1+r.next(3), names)})
		}
		l, by := lists(puts)
		got := types.Subst(x, l, by)
		slices.Reverse(l)
		slices.Reverse(by)
		if again := types.Subst(x, l, by); !equal(got, again) {
			t.Fatalf("%v: %v, %v", x, got, again)
		}
	}
}

// chain is TAlls of these names around a body.
func chain(depth int, name func(i int) string, body api.Type) api.Type {
	for i := range depth {
		body = all(name(depth-1-i), body)
	}
	return body
}

// R1: types as deep as the bound says, of each shape.
func TestDeep(t *testing.T) {
	const deep = 1<<16 - 8
	one := func(i int) string { return "a" }
	own := func(i int) string { return "x" + strconv.Itoa(i) }
	left, right, function, bracket := a, a, a, a
	for range deep {
		left, right, bracket = app(left, b), app(b, right), fun(bracket, b)
	}
	for range deep / 2 {
		function = fun(b, function)
	}
	used := a
	for i := range 200 {
		used = app(used, tv(own(i*300)))
	}
	for i, x := range []api.Type{left, right, function, bracket, chain(deep, one, b), chain(deep, own, fun(a, b)), chain(deep-200, own, used), chain(deep, one, fun(all("b", b), b))} {
		got := types.Subst(x, []string{"b", "a"}, []api.Type{a, tv("x9")})
		if types.Size(got) != types.Size(x) || !types.Same(x, x) || types.Same(x, got) {
			t.Errorf("%d: what is deep is not the same", i)
		}
		if len(types.Free(x)) == 0 || len(types.Metas(x)) != 0 || len(types.Print(x)) < 2*types.Size(x)-1 {
			t.Errorf("%d: %v", i, types.Free(x))
		}
		head, args := types.Spine(types.App(types.All("q", x), x))
		if len(args) != 1 || !types.Same(head.Args[0], args[0]) || !types.Same(types.Fun(x), x) {
			t.Errorf("%d: Spine", i)
		}
	}
	head, args := types.Spine(left)
	if len(args) != deep || !types.Same(types.App(head, args...), left) {
		t.Error("what is given many:", len(args))
	}
	if many := types.Fun(a, args[:deep/2]...); !types.Same(many, function) {
		t.Error("a function of many")
	}
}

// P4.3: each TAll's new name makes the one within get another one, however many there are.
func TestSubstInARow(t *testing.T) {
	const deep = 1000
	next := func(i int) string { return chars.Letters(i + 1) }
	body, want := tv("q@"), a
	for i := range deep {
		body, want = app(body, tv(chars.Letters(i))), app(want, tv(next(i)))
	}
	got := types.Subst(chain(deep, chars.Letters, body), []string{"q@"}, []api.Type{a})
	if !equal(got, chain(deep, next, want)) {
		t.Error(types.Print(got))
	}
}

// Things that the chapter does not allow are told no promise of, but nothing panics.
func TestBadTypes(t *testing.T) {
	for _, x := range []api.Type{
		{}, {Form: 9}, {Form: -1, Args: []api.Type{a}}, {Form: api.TApp}, {Form: api.TAll, Name: "a"},
		{Form: api.TApp, Args: []api.Type{a}}, {Form: api.TApp, Args: []api.Type{pointer, a, b}}, {Form: api.TAll, Name: "a", Args: []api.Type{a, b}},
		{Form: api.TVar, Name: "a", Args: []api.Type{b, {Form: api.TAll}}}, {Form: api.TCon, Args: []api.Type{a}}, {Form: api.TMeta, Args: []api.Type{a}},
	} {
		for _, y := range []api.Type{x, app(x, x), fun(x, all("a", x)), app(app(x, a), b)} {
			types.Split(y)
			types.Spine(y)
			types.Free(y)
			types.Metas(y)
			types.Size(y)
			types.Print(types.Subst(y, []string{"a", "b"}, []api.Type{x, a}))
			types.Subst(y, []string{"a", "b"}, []api.Type{x})
			types.Subst(y, nil, []api.Type{x})
			types.Subst(y, []string{"a", "a"}, []api.Type{x, b})
			if !types.Same(y, types.App(y)) || types.Same(y, app(y, y)) {
				t.Error(y)
			}
		}
	}
}
