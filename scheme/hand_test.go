package scheme_test

import (
	"reflect"
	"slices"
	"strconv"
	"strings"
	"testing"

	"fugue/api"
	"fugue/chars"
	"fugue/kinds"
	"fugue/scheme"
	"fugue/types"
	"fugue/unify"
)

// room is a list with the same things, behind which there is room in which something stands.
func room[T any](l []T, behind T) []T {
	out := append(make([]T, 0, len(l)+2), l...)
	return append(append(out, behind), behind)[:len(l)]
}

func roomyType(t api.Type) api.Type {
	t.Args = room(t.Args, types.Con("room"))
	for i, a := range t.Args {
		t.Args[i] = roomyType(a)
	}
	return t
}

func roomyPreds(l []api.Pred) []api.Pred {
	l = room(l, api.Pred{Class: "room"})
	for i := range l {
		l[i].Type = roomyType(l[i].Type)
	}
	return l
}

func roomyKinds(l []api.Kind) []api.Kind {
	l = room(l, api.Kind{})
	for i := range l {
		l[i].From = roomyKinds(l[i].From)
	}
	l[:cap(l)][len(l)].From = make([]api.Kind, 3)
	return l
}

func roomy(x api.Scheme) api.Scheme {
	return api.Scheme{Vars: room(x.Vars, "room"), Kinds: roomyKinds(x.Kinds), Preds: roomyPreds(x.Preds), Type: roomyType(x.Type)}
}

// whole is a value with all that stands in it, the room behind lists, too, in memory of its own.
func whole(v reflect.Value) any {
	switch v.Kind() {
	case reflect.Slice:
		l := []any{v.Len()}
		for i := range v.Cap() {
			l = append(l, whole(v.Slice(0, v.Cap()).Index(i)))
		}
		return l
	case reflect.Struct:
		var l []any
		for i := range v.NumField() {
			l = append(l, whole(v.Field(i)))
		}
		return l
	case reflect.Interface:
		return whole(v.Elem())
	}
	return v.Interface()
}

func snap(x ...any) any { return whole(reflect.ValueOf(x)) }

// stretch is memory from a place on to another one.
type stretch struct{ from, to uintptr }

// memory is that of all lists in a value, the room behind them, too.
func memory(v reflect.Value) []stretch {
	var l []stretch
	switch v.Kind() {
	case reflect.Slice:
		if v.Cap() > 0 {
			l = append(l, stretch{v.Pointer(), v.Pointer() + uintptr(v.Cap())*v.Type().Elem().Size()})
		}
		for i := range v.Cap() {
			l = append(l, memory(v.Slice(0, v.Cap()).Index(i))...)
		}
	case reflect.Struct:
		for i := range v.NumField() {
			l = append(l, memory(v.Field(i))...)
		}
	case reflect.Interface:
		return memory(v.Elem())
	}
	return l
}

// apart tells whether no two lists in some values share any memory.
func apart(x ...any) bool {
	var l []stretch
	for _, v := range x {
		l = append(l, memory(reflect.ValueOf(v))...)
	}
	slices.SortFunc(l, func(a, b stretch) int { return int(a.from) - int(b.from) })
	for i := range l {
		if i > 0 && l[i].from < l[i-1].to {
			return false
		}
	}
	return true
}

// R4, R5: what is handed in is left as it was, room and all; what is answered is in memory of its own, no two lists sharing
// any; the same is told each time.
func TestHandedIn(t *testing.T) {
	e := env(t, world)
	for _, src := range []string{". Int", "a b. (O (L b), E a, O (L b), E (b m)) => (b -> L a) -> c", "b a. (E b, E b, E a) => P a b -> P a b -> n", "f x y. (E (f x), O x) => f x -> z", "a. E a => a", "x. L x"} {
		x := of(t, src)
		for i := range x.Vars {
			x.Kinds = append(x.Kinds, kindsOf(t, []string{"*", "(* -> *) -> (* -> *) -> *", "* -> *"}[i%3])...)
		}
		x = roomy(x)
		y, metas := roomy(x), room([]int{2, 1, 7}, 9)
		was := snap(x, y, metas)
		ask := func() []any {
			preds, typ, by := scheme.Fresh(unify.New(), x)
			return []any{scheme.Mono(x.Type), scheme.Quantify(metas, x.Preds, x.Type), preds, typ, by, scheme.Canon(x), scheme.Same(x, y), scheme.General(e, x, y), scheme.Print(x)}
		}
		one, other := ask(), ask()
		if !reflect.DeepEqual(one, other) {
			t.Error(src, one, other)
		}
		if !reflect.DeepEqual(was, snap(x, y, metas)) {
			t.Error(src, "changed")
		}
		if !apart(append(one, x, y, metas)...) {
			t.Error(src, "shared")
		}
	}
	// The same scheme is handed in twice.
	x := of(t, "E a => a -> b")
	if !scheme.Same(x, x) || !scheme.General(e, x, x) {
		t.Error("itself")
	}
}

// What is known of shared memory: that the test above would see it.
func TestApart(t *testing.T) {
	l := make([]api.Type, 2, 5)
	for i, x := range []struct {
		x  []any
		is bool
	}{
		{[]any{l, l}, false}, {[]any{l[:1:1], l[1:2]}, true}, {[]any{l[:1], l[1:]}, false}, {[]any{api.Type{Args: l}, []api.Pred{{Type: api.Type{Args: l[1:]}}}}, false}, {[]any{l, make([]api.Type, 2)}, true}, {[]any{l[:0], l[1:]}, false}, {[]any{l[:1:1], l[4:5]}, true}, {[]any{3, "a", []string(nil)}, true},
	} {
		if apart(x.x...) != x.is {
			t.Error(i)
		}
	}
}

// R4: empty lists, and lists that are nil, are one.
func TestEmpty(t *testing.T) {
	e := env(t, world)
	x, y := of(t, ". Int"), of(t, ". Int")
	y.Vars, y.Kinds, y.Preds, y.Type.Args = []string{}, []api.Kind{}, []api.Pred{}, []api.Type{}
	if !scheme.Same(x, y) || !scheme.General(e, x, y) || !scheme.General(e, y, x) || scheme.Print(y) != "Int" || text(scheme.Canon(y)) != text(x) || text(scheme.Quantify([]int{}, y.Preds, y.Type)) != text(x) {
		t.Error(y)
	}
	if preds, typ, by := scheme.Fresh(unify.New(), y); len(preds)+len(by) > 0 || types.Print(typ) != "Int" {
		t.Error(preds, typ, by)
	}
	k := of(t, "a")
	k.Kinds = []api.Kind{{From: []api.Kind{}}}
	if c := scheme.Canon(k); len(c.Kinds) != 1 || !kinds.Same(c.Kinds[0], kinds.Star()) {
		t.Error(c)
	}
}

// R1: whatever is handed in, that the chapter does not allow, too.
func TestAnything(t *testing.T) {
	a := types.Var("a")
	e := envOf(t, api.Program{Classes: []api.Class{{Name: "E", At: 1}}, Insts: []api.Inst{
		{Class: "E", Con: "L", Vars: []string{"a"}, Preds: []api.Pred{{Class: "E", Type: a}}}, {Class: "E"}, {Class: "E", Con: "I"}, {Class: "X", Con: "I", Preds: []api.Pred{{Class: "X", Type: a}}},
		{Class: "X", Con: "L", Vars: []string{"a"}, Preds: []api.Pred{{Class: "X", Type: types.App(types.Con("L"), a)}}}, {Class: "X", Con: "K", Vars: []string{"b"}, Preds: []api.Pred{{Class: "X", Type: types.App(a, types.Var("b"))}, {Class: "X"}}}, {Class: "X", Con: "M", Vars: []string{"b"}, Preds: []api.Pred{{Class: "E", Type: types.Meta(5)}}},
	}})
	list := types.App(types.Con("L"), a)
	bad := []api.Type{{}, {Form: api.TApp}, {Form: api.TApp, Args: []api.Type{list}}, {Form: api.TApp, Args: []api.Type{list, list, list}}, {Form: api.TAll}, {Form: api.TAll, Name: "a", Args: []api.Type{a, a}}, {Form: 9, Args: []api.Type{a}}, {Form: -1}, {Form: api.TVar, Name: "a", Args: []api.Type{a}}, types.All("a", types.Fun(a, types.Var("b"))), types.All("b", types.Fun(a, types.Var("b"))),
		{Form: api.TCon, Name: "L", Args: []api.Type{a}}, {Form: api.TMeta, N: -1, Args: []api.Type{a}}, list, types.Con("I"), types.App(types.Con("K"), types.Con("I")), types.App(types.Con("M"), a), types.App(types.Con("L"), list), types.App(a, a), types.Var(""), types.Con("")}
	var l []api.Scheme
	for i, x := range bad {
		for j, vars := range [][]string{nil, {"a"}, {"a", "a", ""}, {"b", "a"}} {
			y := api.Scheme{Vars: vars, Type: x, Kinds: make([]api.Kind, (i+j)%4)}
			for k := range (i + 2*j) % 4 {
				y.Preds = append(y.Preds, api.Pred{Class: []string{"E", "X", ""}[k], Type: bad[(i*7+j+5*k)%len(bad)]})
			}
			l = append(l, y)
		}
	}
	for _, x := range l {
		scheme.Mono(x.Type)
		scheme.Quantify([]int{1, 1, -1, 0}, x.Preds, x.Type)
		scheme.Fresh(unify.New(), x)
		scheme.Canon(x)
		scheme.Print(x)
		for _, y := range l {
			scheme.Same(x, y)
			scheme.General(e, x, y)
		}
	}
	// What asks for anything but its variables is an instance by which nothing holds.
	for _, con := range []string{"I", "K I", "L I", "M I"} {
		if scheme.General(e, of(t, "X a => a"), of(t, "."+con)) {
			t.Error(con)
		}
	}
}

// nested is a type within so many of a constructor's.
func nested(con string, n int, x api.Type) api.Type {
	for range n {
		x = api.Type{Form: api.TApp, Args: []api.Type{types.Con(con), x}}
	}
	return x
}

// R1: types and kinds that are nested as deep as the document's bound.
func TestDeep(t *testing.T) {
	const n = 60000
	e := env(t, world)
	deep := func(x api.Type, preds ...api.Pred) api.Scheme {
		k := api.Kind{}
		for range n {
			k = api.Kind{From: []api.Kind{k}}
		}
		return api.Scheme{Vars: []string{"b"}, Kinds: []api.Kind{k}, Preds: preds, Type: nested("L", n, x)}
	}
	pred := func(class string, x api.Type) api.Pred { return api.Pred{Class: class, Type: x} }
	b := types.Var("b")
	x := deep(b, pred("O", b), pred("E", nested("L", n, b)), pred("E", nested("L", n, b)))
	open, shut := strings.Repeat("L (", n-1), strings.Repeat(")", n-1)
	if got := scheme.Print(x); got != "(E ("+open+"L a"+shut+"), O a) => "+open+"L a"+shut {
		t.Error(len(got))
	}
	if !scheme.Same(x, x) || scheme.Same(x, deep(b)) || scheme.Same(deep(b), deep(types.Var("c"))) {
		t.Error("same")
	}
	// What is asked holds by instances so deep.
	if !scheme.General(e, x, deep(b, pred("O", b))) || scheme.General(e, x, deep(b, pred("N", b))) || scheme.General(e, deep(b, pred("E", nested("L", n, b))), deep(b)) {
		t.Error("general")
	}
	if !scheme.General(e, of(t, "E a => a"), deep(types.Con("Int"))) || scheme.General(e, of(t, "E a => a"), deep(types.Con("Bool"))) {
		t.Error("general")
	}
	preds, typ, by := scheme.Fresh(unify.New(), x)
	q := scheme.Quantify([]int{1}, preds, typ)
	if len(by) != 1 || len(preds) != 3 || types.Print(preds[0].Type) != "?1" || !scheme.Same(q, x) || types.Size(scheme.Mono(typ).Type) != n+1 {
		t.Error("fresh")
	}
	// A function of so many arguments; one type of so many.
	f, w := b, types.Con("W")
	for range n {
		f = api.Type{Form: api.TApp, Args: []api.Type{{Form: api.TApp, Args: []api.Type{types.Con(types.Arrow), types.Con("Int")}}, f}}
		w = api.Type{Form: api.TApp, Args: []api.Type{w, b}}
	}
	y := api.Scheme{Vars: x.Vars, Preds: []api.Pred{pred("E", w), pred("O", b)}, Type: f}
	if !scheme.Same(y, y) || !scheme.General(e, scheme.Mono(f), scheme.Mono(f)) || scheme.General(e, y, y) != true || scheme.General(e, y, api.Scheme{Vars: x.Vars, Preds: y.Preds[1:], Type: f}) {
		t.Error("wide")
	}
}

// R1: what asks for twice as much at each step.
func TestDoubling(t *testing.T) {
	e := env(t, "class E a { } ; class O a { } ; class S a { } ; instance (E a, O a) => E (L a) { } ; instance (O a, E a, O a) => O (L a) { } ; instance (E a, O a, S b) => S (P a b) { } ; instance E Int { } ; instance O Int { }")
	for _, n := range []int{30, 40, 20000} {
		of := func(class string, x api.Type, y api.Type) api.Scheme {
			return api.Scheme{Vars: []string{"a"}, Preds: []api.Pred{{Class: class, Type: x}}, Type: y}
		}
		b := types.Var("a")
		x, y := of("O", nested("L", n, b), b), of("E", b, b)
		y.Preds = append(y.Preds, api.Pred{Class: "O", Type: b})
		if !scheme.General(e, x, y) || scheme.General(e, x, of("O", b, b)) || !scheme.General(e, x, scheme.Mono(types.Con("Int"))) || !scheme.General(e, of("E", b, b), scheme.Mono(nested("L", n, types.Con("Int")))) {
			t.Error(n)
		}
		p := of("S", types.App(types.Con("P"), nested("L", n, types.Con("Int")), b), b)
		if scheme.General(e, p, scheme.Mono(types.Con("Bool"))) || !scheme.General(e, p, of("S", b, b)) {
			t.Error(n)
		}
	}
}

// R1: many variables, many predicates.
func TestMany(t *testing.T) {
	const n = 20000
	e := env(t, world)
	x := api.Scheme{Type: types.Con("Int")}
	var args []api.Type
	for i := range n {
		v := types.Var("v" + strconv.Itoa(i))
		x.Vars, x.Kinds, args = append(x.Vars, v.Name), append(x.Kinds, api.Kind{From: make([]api.Kind, i%3)}), append(args, v)
		x.Preds = append(x.Preds, api.Pred{Class: "O", Type: v}, api.Pred{Class: "E", Type: types.App(types.Con("L"), v)}, api.Pred{Class: "O", Type: v})
	}
	slices.Reverse(x.Vars)
	slices.Reverse(x.Kinds)
	x.Type = types.Fun(types.App(types.Con("T"), args...), args[n-1])
	c := scheme.Canon(x)
	if len(c.Vars) != n || len(c.Kinds) != n || len(c.Preds) != 2*n || c.Vars[0] != "a" || c.Vars[n-1] != chars.Letters(n-1) || len(c.Kinds[1].From) != 0 || len(c.Kinds[2].From) != 1 || c.Preds[2*n-1].Class != "O" {
		t.Error(len(c.Vars), len(c.Preds))
	}
	if !scheme.Same(x, c) || !scheme.General(e, x, c) || !scheme.General(e, c, x) || strings.Count(scheme.Print(x), ", ") != 2*n-1 {
		t.Error("same")
	}
	s := unify.New()
	preds, typ, by := scheme.Fresh(s, x)
	var numbers []int
	for i := range by {
		numbers = append(numbers, i+1)
	}
	if len(preds) != 3*n || len(by) != n || !scheme.Same(scheme.Quantify(numbers, preds, typ), x) {
		t.Error("fresh")
	}
	// Many predicates that are one, of a type that is great; many variables that come nowhere.
	great := types.App(types.Con("T"), args[:1000]...)
	y := api.Scheme{Vars: x.Vars, Type: great}
	for range 1000 {
		y.Preds = append(y.Preds, api.Pred{Class: "E", Type: types.App(types.Con("W"), great)})
	}
	if c := scheme.Canon(y); len(c.Preds) != 1 || len(c.Vars) != 1000 || !scheme.General(e, y, scheme.Mono(great)) {
		t.Error(len(c.Preds), len(c.Vars))
	}
	// One variable of many predicates in the place of which a great type stands.
	z := of(t, "a")
	z.Preds = slices.Repeat([]api.Pred{{Class: "E", Type: types.App(types.Con("W"), types.Var("a"))}}, n)
	if !scheme.General(e, z, scheme.Mono(types.App(types.Con("T"), args...))) {
		t.Error("great")
	}
}

// R1: many classes above one another, many of which are given, and asked for.
func TestManyClasses(t *testing.T) {
	const n = 1000
	p := api.Program{}
	x := of(t, "a")
	for i := range n {
		c := api.Class{Name: "C" + strconv.Itoa(i), At: i}
		if i+1 < n {
			c.Supers = []string{"C" + strconv.Itoa(i+1)}
		}
		p.Classes = append(p.Classes, c)
		x.Preds = append(x.Preds, api.Pred{Class: c.Name, Type: types.Var("a")})
	}
	p.Insts = []api.Inst{{Class: "X", Con: "L", Vars: []string{"a"}, Preds: x.Preds}}
	e := envOf(t, p)
	least, most := of(t, "C0 a => a"), of(t, "C"+strconv.Itoa(n-1)+" a => a")
	ladder := func(a, b api.Scheme) [2]bool { return [2]bool{scheme.General(e, a, b), scheme.General(e, b, a)} }
	for i, x := range []struct {
		a, b   api.Scheme
		is, as bool
	}{{x, x, true, true}, {x, least, true, true}, {most, x, true, false}, {most, least, true, false}, {of(t, "X (L a) => a"), x, true, false}, {of(t, "X (L a) => a"), least, true, false}, {of(t, "X (L a) => a"), most, false, false}} {
		if got := ladder(x.a, x.b); got != [2]bool{x.is, x.as} {
			t.Error(i, got)
		}
	}
	// One long way up.
	p.Classes = nil
	for i := range 60000 {
		c := api.Class{Name: "C" + strconv.Itoa(i), At: i}
		if i+1 < 60000 {
			c.Supers = []string{"C" + strconv.Itoa(i+1)}
		}
		p.Classes = append(p.Classes, c)
	}
	up := envOf(t, p)
	if !scheme.General(up, of(t, "C59999 a => a"), least) || scheme.General(up, least, of(t, "C59999 a => a")) {
		t.Error("ladder")
	}
}
