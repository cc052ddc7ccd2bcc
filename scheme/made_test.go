package scheme_test

import (
	"reflect"
	"slices"
	"strconv"
	"testing"

	"fugue/api"
	"fugue/classes"
	"fugue/entail"
	"fugue/scheme"
	"fugue/types"
	"fugue/unify"
)

// chance is numbers that are the same ones each time.
type chance uint64

func (c *chance) below(n int) int {
	*c = *c*6364136223846793005 + 1442695040888963407
	return int(*c >> 33 % chance(n))
}

func pick[T any](c *chance, l []T) T { return l[c.below(len(l))] }

// mixed is a list in another row.
func mixed[T any](c *chance, l []T) []T {
	l = slices.Clone(l)
	for i := range l {
		j := i + c.below(len(l)-i)
		l[i], l[j] = l[j], l[i]
	}
	return l
}

// maker makes classes, instances and schemes by chance.
type maker struct {
	chance
	names   []string // of variables
	classes []string
	cons    []string // each takes as many types as its place says
}

func makerOf(seed int) *maker {
	m := &maker{chance: chance(seed*7919 + 1), names: []string{"a", "b", "c", "d", "x", "a1"}, cons: []string{"I", "L", "P"}}
	m.names = mixed(&m.chance, m.names)[:2+m.below(4)]
	for i := range 1 + m.below(4) {
		m.classes = append(m.classes, "A"+strconv.Itoa(i))
	}
	return m
}

// env is of classes, each above some of those behind it, and of instances: where a class has one, so have those above it.
func (m *maker) env() *classes.Env {
	for {
		p := api.Program{}
		for i, name := range m.classes {
			c := api.Class{Name: name, At: i}
			for range m.below(3) {
				if i+1 < len(m.classes) {
					c.Supers = append(c.Supers, pick(&m.chance, m.classes[i+1:]))
				}
			}
			p.Classes = append(p.Classes, c)
		}
		for n, con := range m.cons {
			for _, name := range m.classes {
				if m.below(3) > 0 {
					p.Insts = append(p.Insts, m.inst(name, con, n))
				}
			}
		}
		if e, _ := classes.New(p); e != nil {
			return e
		}
	}
}

func (m *maker) inst(class, con string, n int) api.Inst {
	x := api.Inst{Class: class, Con: con, At: m.below(1000), Vars: []string{"c", "a"}[:n]}
	for range m.below(4) {
		if n > 0 {
			x.Preds = append(x.Preds, api.Pred{Class: pick(&m.chance, m.classes), Type: types.Var(pick(&m.chance, x.Vars))})
		}
	}
	return x
}

// closed tells whether of each instance the classes above its own hold of its type by its own predicates.
func closed(e *classes.Env) bool {
	for n := range e.Len() {
		x := e.At(n)
		own := types.Con(x.Con)
		for _, name := range x.Vars {
			own = types.App(own, types.Var(name))
		}
		for _, class := range e.Above(x.Class) {
			if _, errno := entail.By(e, x.Preds, api.Pred{Class: class, Type: own}); errno != api.OK {
				return false
			}
		}
	}
	return true
}

// typ is a type that is nested so deep at most.
func (m *maker) typ(deep int) api.Type {
	n := m.below(12)
	switch {
	case n < 1:
		return types.Meta(1 + m.below(2))
	case n < 2 || deep == 0 && n < 4:
		return types.Con(m.cons[0])
	case n < 4 || deep == 0:
		return types.Var(pick(&m.chance, m.names))
	case n < 6:
		return types.App(types.Var(pick(&m.chance, m.names)), m.typ(deep-1))
	case n < 8:
		return types.App(types.Con("L"), m.typ(deep-1))
	case n < 10:
		return types.App(types.Con("P"), m.typ(deep-1), m.typ(deep-1))
	}
	return types.Fun(m.typ(deep-1), m.typ(deep-1))
}

// preds are so many, of variables for the most part.
func (m *maker) preds(n, deep int) []api.Pred {
	var l []api.Pred
	for range n {
		l = append(l, api.Pred{Class: pick(&m.chance, m.classes), Type: m.typ(m.below(deep + 1))})
	}
	return l
}

func (m *maker) kind(deep int) api.Kind {
	var k api.Kind
	for range m.below(3) {
		if deep > 0 {
			k.From = append(k.From, m.kind(deep-1))
		}
	}
	return k
}

// scheme is of some of the names as its Vars.
func (m *maker) scheme(deep int) api.Scheme {
	x := api.Scheme{Vars: mixed(&m.chance, m.names)[:m.below(len(m.names)+1)], Preds: m.preds(m.below(5), 1), Type: m.typ(deep)}
	if m.below(2) == 0 {
		for range x.Vars {
			x.Kinds = append(x.Kinds, m.kind(2))
		}
	}
	return x
}

// own is a scheme all of whose variables are its own, and come in its Type.
func (m *maker) own(deep int) api.Scheme {
	return owned(api.Scheme{Type: m.typ(deep), Preds: m.preds(m.below(4), 1)})
}

// owned is a scheme of all variables of its Type, and of those predicates alone whose variables are among them.
func owned(x api.Scheme) api.Scheme {
	x.Vars = types.Free(x.Type)
	x.Preds = slices.DeleteFunc(x.Preds, func(p api.Pred) bool {
		return slices.ContainsFunc(coming(p.Type), func(name string) bool { return !slices.Contains(x.Vars, name) })
	})
	return x
}

// other is a scheme whose Vars have other names, and stand in another row.
func (m *maker) other(x api.Scheme) api.Scheme {
	names := map[string]string{}
	used := all(x)
	for _, name := range x.Vars {
		var letter string
		for letter == "" || slices.Contains(used, letter) && !slices.Contains(x.Vars, letter) {
			letter = pick(&m.chance, []string{"a", "b", "c", "d", "e", "x", "y", "z", "a1", "q'", "long_name"})
			for _, given := range names {
				if given == letter {
					letter = ""
				}
			}
		}
		names[name] = letter
	}
	y := renamedScheme(x, func(name string) string {
		if letter, is := names[name]; is {
			return letter
		}
		return name
	})
	places := make([]int, len(x.Vars))
	for i := range places {
		places[i] = i
	}
	z := y
	z.Vars, z.Kinds = nil, nil
	for _, i := range mixed(&m.chance, places) {
		z.Vars = append(z.Vars, y.Vars[i])
		if len(y.Kinds) > 0 {
			z.Kinds = append(z.Kinds, y.Kinds[i])
		}
	}
	return z
}

// P13.3, P13.5: schemes made by chance; with other names, and in another row.
func TestMadeCanon(t *testing.T) {
	counts := map[bool]int{}
	for seed := range 20000 {
		m := makerOf(seed)
		x := m.scheme(3)
		look(t, x)
		y := m.other(x)
		look(t, y)
		rows := told(x)
		counts[rows]++
		if rows {
			y.Preds = mixed(&m.chance, append(y.Preds, y.Preds...))
		}
		one, other := scheme.Canon(x), scheme.Canon(y)
		if text(one) != text(other) || kindsText(one.Kinds) != kindsText(other.Kinds) || scheme.Print(x) != scheme.Print(y) || !scheme.Same(x, y) {
			t.Fatal(text(x), "|", text(y), "|", text(one), "|", text(other))
		}
		z := m.scheme(2)
		if scheme.Same(x, z) != (text(canonic(x)) == text(canonic(z))) {
			t.Fatal(text(x), "|", text(z))
		}
	}
	if counts[true] < 4000 || counts[false] < 4000 {
		t.Error(counts)
	}
}

// P13.1, P13.2: what is fresh is what is put in by the words, and is the same scheme, where that is made variables again.
func TestMadeFresh(t *testing.T) {
	for seed := range 10000 {
		m := makerOf(seed)
		x := m.scheme(3)
		s := unify.New()
		made := 2 + m.below(9)
		for range made {
			s.Fresh()
		}
		preds, typ, by := scheme.Fresh(s, x)
		var numbers []int
		for i := range x.Vars {
			numbers = append(numbers, made+1+i)
			if !reflect.DeepEqual(by[i], types.Meta(made+1+i)) {
				t.Fatal(text(x), by)
			}
		}
		if len(by) != len(x.Vars) || !types.Same(typ, types.Subst(x.Type, x.Vars, by)) || len(preds) != len(x.Preds) {
			t.Fatal(text(x), types.Print(typ), by)
		}
		for i, p := range preds {
			if p.Class != x.Preds[i].Class || !types.Same(p.Type, types.Subst(x.Preds[i].Type, x.Vars, by)) {
				t.Fatal(text(x), predsText(preds), by)
			}
		}
		if y := scheme.Quantify(numbers, preds, typ); !scheme.Same(x, y) {
			t.Fatal(text(x), text(y))
		}
	}
}

// P13.1: what is quantified, by the words.
func TestMadeQuantify(t *testing.T) {
	for seed := range 5000 {
		m := makerOf(seed)
		metas := mixed(&m.chance, []int{1, 2, 3})[:m.below(4)]
		put := func(x api.Type) api.Type { return x }
		for _, n := range metas {
			ahead := put
			put = func(x api.Type) api.Type { return known(ahead(x), n, types.Var("t"+strconv.Itoa(n))) }
		}
		preds, typ := m.preds(m.below(4), 2), m.typ(3)
		want := api.Scheme{Type: put(typ)}
		for _, n := range metas {
			want.Vars = append(want.Vars, "t"+strconv.Itoa(n))
		}
		for _, p := range preds {
			want.Preds = append(want.Preds, api.Pred{Class: p.Class, Type: put(p.Type)})
		}
		if got := scheme.Quantify(metas, preds, typ); text(got) != text(want) || got.Kinds != nil {
			t.Fatal(text(got), "|", text(want))
		}
	}
}

// known is a type with another one in the place of a number.
func known(t api.Type, n int, is api.Type) api.Type {
	if t.Form == api.TMeta && t.N == n {
		return is
	}
	var l []api.Type
	for _, x := range t.Args {
		l = append(l, known(x, n, is))
	}
	t.Args = l
	return t
}

// lesser is a scheme of types in the place of another one's variables, and of predicates by which that one's may hold.
func (m *maker) lesser(e *classes.Env, x api.Scheme) api.Scheme {
	var by []api.Type
	for range x.Vars {
		by = append(by, m.typ(m.below(2)))
	}
	y := api.Scheme{Type: types.Subst(x.Type, x.Vars, by)}
	for _, p := range x.Preds {
		q := api.Pred{Class: p.Class, Type: types.Subst(p.Type, x.Vars, by)}
		heads, errno := entail.Head(e, []api.Pred{q})
		if errno != api.OK || m.below(6) == 0 {
			heads = []api.Pred{q}
		}
		y.Preds = append(y.Preds, heads...)
	}
	for i, p := range y.Preds {
		if class := pick(&m.chance, m.classes); m.below(2) == 0 && (m.below(5) == 0 || slices.Contains(e.Above(class), p.Class)) {
			y.Preds[i].Class = class
		}
	}
	y.Preds = mixed(&m.chance, append(y.Preds, m.preds(m.below(2), 1)...))
	return y
}

// P13.4: pairs made by chance, of which the second is like the first.
func TestMadeGeneral(t *testing.T) {
	counts, preds := map[bool]int{}, 0
	for seed := range 6000 {
		m := makerOf(seed)
		e := m.env()
		x := m.scheme(2)
		for range 4 {
			y := m.lesser(e, x)
			y.Vars = mixed(&m.chance, m.names)[:m.below(len(m.names)+1)]
			if m.below(3) == 0 {
				y = owned(y)
			}
			is := general(e, x, y)
			counts[is]++
			if is && len(x.Preds) > 1 {
				preds++
			}
			if scheme.General(e, x, y) != is {
				t.Fatal(text(x), "|", text(y), !is)
			}
			if scheme.General(e, m.other(x), m.other(y)) != is {
				t.Fatal("names:", text(x), "|", text(y), !is)
			}
		}
	}
	if counts[true] < 3000 || counts[false] < 3000 || preds < 500 {
		t.Error(counts, preds)
	}
}

// P13.6: of itself; of three; of two that are both more general.
func TestMadeRow(t *testing.T) {
	chains, twos, classes, different := 0, 0, 0, 0
	for seed := 0; classes < 1500; seed++ {
		m := makerOf(seed)
		e := m.env()
		if !closed(e) {
			continue
		}
		classes++
		for range 10 {
			x := m.own(2)
			y := owned(m.lesser(e, x))
			z := owned(m.lesser(e, y))
			if !scheme.General(e, x, x) || !scheme.General(e, x, m.other(x)) || !scheme.General(e, m.other(y), y) {
				t.Fatal(text(x), "|", text(y))
			}
			if scheme.General(e, x, y) && scheme.General(e, y, z) {
				chains++
				if !scheme.General(e, x, z) {
					t.Fatal(text(x), "|", text(y), "|", text(z))
				}
			}
			if scheme.General(e, x, y) && scheme.General(e, y, x) {
				twos++
				one, other := api.Scheme{Vars: x.Vars, Type: x.Type}, api.Scheme{Vars: y.Vars, Type: y.Type}
				if !scheme.Same(one, other) {
					t.Fatal(text(x), "|", text(y))
				}
				if !scheme.Same(x, y) {
					different++
				}
			}
		}
	}
	if chains < 3000 || twos < 1000 || different < 50 {
		t.Error(chains, twos, classes, different)
	}
}
