package unify_test

import (
	"slices"
	"testing"

	"fugue/api"
	"fugue/types"
	"fugue/unify"
)

// asked is two types that are made one.
type asked struct{ x, y api.Type }

// told is a Subst that was asked these, and refused none.
func told(t *testing.T, l ...asked) *unify.Subst {
	t.Helper()
	s := unify.New()
	for _, p := range l {
		if e := s.Unify(p.x, p.y); e != api.OK {
			t.Fatal(types.Print(p.x), types.Print(p.y), e)
		}
	}
	return s
}

// P9.1: nothing is known; the numbers from 1 on, whatever is known of them.
func TestNew(t *testing.T) {
	s, other := unify.New(), unify.New()
	if len(s.Known()) != 0 {
		t.Error(s.Known())
	}
	for n := 1; n < 40; n++ {
		if got := s.Fresh(); !equal(got, meta(n)) {
			t.Errorf("%d: %v", n, got)
		}
		s.Unify(meta(n+n%3), integer)
		s.Unify(meta(n), list(meta(n)))
		s.Unify(meta(1000-n), meta(2000-n))
	}
	if len(other.Known()) != 0 || !equal(other.Apply(m1), m1) || !equal(other.Fresh(), m1) {
		t.Error("another one was told of it")
	}
	var zero api.Type
	if !equal(unify.New().Apply(zero), zero) {
		t.Error("a type that is none")
	}
}

// P9.1, P9.2: what is known behind an OK, whichever of the two is said first.
func TestUnify(t *testing.T) {
	for i, c := range []struct {
		asked []asked
		want  said
	}{
		{nil, said{}},
		{[]asked{{a, a}, {integer, integer}, {con("->"), con("->")}, {list(a), list(a)}, {fun(a, list(b)), fun(a, list(b))}}, said{}},
		{[]asked{{m1, m1}, {list(m1), list(m1)}, {all("a", m1), all("b", m1)}}, said{}},
		// A number, and what is none.
		{[]asked{{m1, integer}}, said{1: integer}},
		{[]asked{{m1, a}}, said{1: a}},
		{[]asked{{m1, list(m2)}}, said{1: list(m2)}},
		{[]asked{{m1, all("a", fun(a, m2))}}, said{1: all("a", fun(a, m2))}},
		{[]asked{{m1, con("->")}}, said{1: con("->")}},
		// Of two numbers the greater one is known to be the lower one.
		{[]asked{{m1, m2}}, said{2: m1}},
		{[]asked{{m2, m3}, {m1, m3}}, said{2: m1, 3: m1}},
		{[]asked{{m3, m4}, {m1, m2}, {m2, m4}}, said{2: m1, 3: m1, 4: m1}},
		{[]asked{{m1, m2}, {m3, m4}, {m2, m4}}, said{2: m1, 3: m1, 4: m1}},
		{[]asked{{m2, m4}, {m3, m4}, {m4, m3}, {m2, m3}}, said{3: m2, 4: m2}},
		{[]asked{{meta(9), meta(4)}, {meta(4), meta(7)}, {meta(7), meta(9)}}, said{7: m4, 9: m4}},
		{[]asked{{meta(0), m1}, {m1, meta(-3)}}, said{0: meta(-3), 1: meta(-3)}},
		// What is known goes on being so.
		{[]asked{{m1, m2}, {m2, integer}}, said{1: integer, 2: integer}},
		{[]asked{{m2, integer}, {m1, m2}}, said{1: integer, 2: integer}},
		{[]asked{{m1, list(m2)}, {m2, m3}, {m3, integer}}, said{1: list(integer), 2: integer, 3: integer}},
		{[]asked{{m1, list(m3)}, {m2, list(m4)}, {m1, m2}}, said{1: list(m3), 2: list(m3), 4: m3}},
		{[]asked{{m3, m1}, {m1, list(m2)}, {m3, list(integer)}}, said{1: list(integer), 2: integer, 3: list(integer)}},
		{[]asked{{m1, m2}, {m1, m2}, {m2, m1}}, said{2: m1}},
		// Things, from the left: what the first ones say holds in the others.
		{[]asked{{fun(m1, m1), fun(integer, m2)}}, said{1: integer, 2: integer}},
		{[]asked{{fun(m1, m2), fun(m2, m1)}}, said{2: m1}},
		{[]asked{{fun(m2, fun(m1, m3)), fun(m3, fun(m2, m3))}}, said{2: m1, 3: m1}},
		{[]asked{{app(m1, m2), list(integer)}}, said{1: con("L"), 2: integer}},
		{[]asked{{app(m1, m2), fun(integer, a)}}, said{1: app(con("->"), integer), 2: a}},
		{[]asked{{row(m1, m2, m3), fun(integer, a)}}, said{1: con("->"), 2: integer, 3: a}},
		{[]asked{{row(m1, m1), row(list(m2), list(m3))}}, said{1: list(m2), 3: m2}},
		// TAlls, if they are the same with all that is known; within them nothing is learnt.
		{[]asked{{all("a", fun(a, b)), all("c", fun(tv("c"), b))}}, said{}},
		{[]asked{{m1, integer}, {all("a", fun(a, m1)), all("b", fun(b, integer))}}, said{1: integer}},
		{[]asked{{m1, m2}, {all("a", m1), all("b", m2)}}, said{2: m1}},
		{[]asked{{row(m1, all("a", m1)), row(integer, all("a", integer))}}, said{1: integer}},
		{[]asked{{m1, all("a", a)}, {m1, all("b", b)}}, said{1: all("a", a)}},
		{[]asked{{m1, all("a", m2)}, {m2, integer}, {m1, all("b", integer)}}, said{1: all("a", integer), 2: integer}},
	} {
		s, turned := unify.New(), unify.New()
		for _, p := range c.asked {
			if e := s.Unify(p.x, p.y); e != api.OK {
				t.Errorf("%d: %v: %v", i, p, e)
			}
			if e := turned.Unify(p.y, p.x); e != api.OK {
				t.Errorf("%d: %v turned: %v", i, p, e)
			}
			if !same(s.Apply(p.x), s.Apply(p.y)) {
				t.Errorf("%d: %v is not one", i, p)
			}
		}
		if !knows(s, c.want) {
			t.Errorf("%d: %v", i, s.Known())
		}
		for _, n := range s.Known() {
			if !same(s.Apply(meta(n)), turned.Apply(meta(n))) || !slices.Equal(s.Known(), turned.Known()) {
				t.Errorf("%d turned: %d", i, n)
			}
		}
	}
}

// P9.2: why it is refused: the first that is met, from the left; and then nothing more is known.
func TestRefused(t *testing.T) {
	great := wide(501, integer)
	before := []asked{{meta(11), list(meta(12))}, {meta(13), meta(14)}, {meta(15), wide(499, meta(16))}}
	for i, c := range []struct {
		x, y api.Type
		want api.Errno
	}{
		// ErrUnify, where they are not one.
		{a, b, api.ErrUnify}, {integer, con("Bool"), api.ErrUnify}, {tv("x"), con("x"), api.ErrUnify}, {a, list(a), api.ErrUnify},
		{integer, list(integer), api.ErrUnify}, {list(a), list(b), api.ErrUnify}, {app(m1, a), app(m2, b), api.ErrUnify},
		{fun(a, a), list(a), api.ErrUnify}, {fun(m1, m1), fun(a, b), api.ErrUnify}, {fun(m1, m2), fun(m2, m1).Args[0], api.ErrUnify},
		{meta(11), integer, api.ErrUnify}, {meta(11), fun(a, a), api.ErrUnify}, {fun(meta(13), meta(14)), fun(a, b), api.ErrUnify},
		{all("a", a), a, api.ErrUnify}, {all("a", a), all("b", a), api.ErrUnify}, {all("a", integer), integer, api.ErrUnify}, {list(a), all("a", a), api.ErrUnify},
		{all("a", m1), all("a", integer), api.ErrUnify}, {all("a", m1), all("a", m2), api.ErrUnify}, {all("a", m1), all("a", a), api.ErrUnify},
		{row(all("a", m1), m1), row(all("a", integer), integer), api.ErrUnify}, {all("a", list(m1)), all("a", m1), api.ErrUnify},
		{all("a", meta(13)), all("a", meta(12)), api.ErrUnify},
		// ErrLoop, if a number would be within its type.
		{m1, list(m1), api.ErrLoop}, {m1, fun(m1, integer), api.ErrLoop}, {m1, app(m1, m1), api.ErrLoop}, {m1, all("a", m1), api.ErrLoop},
		{row(m1, m2), row(list(m2), list(m1)), api.ErrLoop}, {row(m1, m1), row(m2, list(m2)), api.ErrLoop}, {m1, wide(300, fun(a, list(m1))), api.ErrLoop},
		{meta(12), meta(11), api.ErrLoop}, {meta(12), list(meta(11)), api.ErrLoop}, {meta(13), list(meta(14)), api.ErrLoop}, {list(meta(13)), meta(14), api.ErrLoop},
		{meta(16), meta(15), api.ErrLoop}, {meta(16), all("a", list(meta(15))), api.ErrLoop},
		// ErrTooGreat, if one of all numbers would be too great a type; and not, if none would be.
		{m1, great, api.ErrTooGreat}, {m1, all("a", wide(500, a)), api.ErrTooGreat}, {list(m1), list(great), api.ErrTooGreat},
		{meta(16), fun(a, b), api.ErrTooGreat}, {meta(16), list(a), api.ErrTooGreat}, {m1, list(list(meta(15))), api.ErrTooGreat}, {m1, fun(meta(15), a), api.ErrTooGreat},
		{row(m1, m2), row(wide(250, m2), fun(a, a)), api.ErrTooGreat},
		// The first that is met.
		{row(a, m1), row(b, list(m1)), api.ErrUnify}, {row(m1, a), row(list(m1), b), api.ErrLoop},
		{row(a, m1), row(b, great), api.ErrUnify}, {row(m1, a), row(great, b), api.ErrTooGreat},
		{row(m1, m2), row(list(m1), great), api.ErrLoop}, {row(m2, m1), row(great, list(m1)), api.ErrTooGreat},
		{m1, list(app(great, m1)), api.ErrLoop}, {m1, list(app(m1, great)), api.ErrLoop}, {meta(16), list(meta(15)), api.ErrLoop}, {meta(13), app(great, meta(14)), api.ErrLoop},
		{row(m1, list(a), m2), row(integer, list(b), list(m2)), api.ErrUnify}, {row(m1, m1, m2), row(list(m2), list(list(m2)), a), api.ErrLoop},
		{row(all("a", m1), m2), row(all("a", a), list(m2)), api.ErrUnify}, {row(m2, all("a", m1)), row(list(m2), all("a", a)), api.ErrLoop},
		// Much is learnt ahead of the refusal.
		{row(m1, m2, m3, m4, meta(13), meta(12), meta(16), a), row(m2, m3, list(m4), meta(5), list(m1), m1, integer, b), api.ErrUnify},
		{row(m4, m3, m2, m1, meta(12), meta(13)), row(meta(14), m4, list(m3), m2, m1, m2), api.ErrLoop},
		{row(m1, m2, meta(16), meta(12), meta(16)), row(integer, list(meta(16)), m2, wide(501, integer), integer), api.ErrLoop},
		{row(m1, m2, meta(16), meta(12), m3), row(integer, list(meta(17)), meta(18), meta(18), wide(501, integer)), api.ErrTooGreat},
	} {
		s, want := told(t, before...), said{}
		for _, p := range before {
			want, _ = want.unify(p.x, p.y)
		}
		for _, p := range []asked{{c.x, c.y}, {c.y, c.x}, {list(c.x), list(c.y)}, {row(meta(21), c.x, meta(21)), row(meta(22), c.y, integer)}} {
			if e := s.Unify(p.x, p.y); e != c.want {
				t.Errorf("%d: %s, %s: %v, not %v", i, types.Print(p.x), types.Print(p.y), e, c.want)
			}
			if !knows(s, want) {
				t.Fatalf("%d: %s, %s: more is known", i, types.Print(p.x), types.Print(p.y))
			}
		}
	}
}

// P9.4: what a TAll's name catches makes no two types one that are not the same then.
func TestCaught(t *testing.T) {
	s := unify.New()
	left, right := row(all("a", m1), m1), row(all("b", m1), a)
	if e := s.Unify(left, right); e != api.ErrUnify || len(s.Known()) != 0 {
		t.Error(e, s.Known())
	}
	// Where a name catches in both, or in none, they are.
	for i, p := range []asked{{row(all("a", m1), m1), row(all("a", m1), a)}, {row(all("a", m1), m1), row(all("b", m1), tv("c"))}, {row(all("a", all("c", m1)), m1), row(all("b", all("c", m1)), tv("c"))}} {
		s := told(t, p)
		if !knows(s, said{1: p.y.Args[1]}) || !same(s.Apply(p.x), s.Apply(p.y)) {
			t.Errorf("%d: %v", i, s.Apply(p.x))
		}
	}
	// Apply puts a number's type in its place, as the words say, and names stay.
	s = told(t, asked{m1, list(a)})
	if got := s.Apply(all("a", all("b", fun(m1, a)))); !equal(got, all("a", all("b", fun(list(a), a)))) {
		t.Error(types.Print(got))
	}
}

// P9.1: a type with all that is known, at every depth; Known rises.
func TestApply(t *testing.T) {
	s := told(t, asked{meta(30), list(meta(20))}, asked{meta(7), fun(meta(30), meta(8))}, asked{meta(20), meta(10)}, asked{meta(8), all("x", meta(9))}, asked{meta(9), meta(12)})
	if got := s.Known(); !slices.Equal(got, []int{7, 8, 12, 20, 30}) {
		t.Error(got)
	}
	for _, c := range []asked{
		{meta(7), fun(list(meta(10)), all("x", meta(9)))}, {meta(8), all("x", meta(9))}, {meta(9), meta(9)}, {meta(10), meta(10)}, {meta(12), meta(9)},
		{meta(20), meta(10)}, {meta(30), list(meta(10))}, {m1, m1}, {a, a}, {integer, integer}, {meta(-7), meta(-7)},
		{fun(meta(20), app(meta(30), m1)), fun(meta(10), app(list(meta(10)), m1))}, {all("y", app(meta(12), meta(30))), all("y", app(meta(9), list(meta(10))))},
	} {
		for range 2 {
			if got := s.Apply(c.x); !equal(got, c.y) {
				t.Errorf("%s: %s", types.Print(c.x), types.Print(got))
			}
		}
	}
}

// The document's examples.
func TestExamples(t *testing.T) {
	if s := told(t, asked{fun(m1, m1), fun(integer, m2)}); !knows(s, said{1: integer, 2: integer}) {
		t.Error(s.Known())
	}
	if e := unify.New().Unify(m1, list(m1)); e != api.ErrLoop {
		t.Error(e)
	}
}

// R4: what is handed in is not changed and not kept, what is answered is new memory.
func TestMemory(t *testing.T) {
	r := chance(5)
	for range 3000 {
		s, want := unify.New(), said{}
		for range 4 {
			x := r.some(1+r.next(9), 5)
			y := r.near(x, 5)
			in, other := roomy(x), roomy(y)
			e := s.Unify(in, other)
			if !kept(in, x) || !kept(other, y) {
				t.Fatal("Unify changed", types.Print(x), types.Print(y))
			}
			spoil(in)
			spoil(other)
			next, is := want.unify(x, y)
			if want = next; e != is || !knows(s, want) {
				t.Fatal("Unify kept", types.Print(x), types.Print(y))
			}
			in = roomy(x)
			l := []api.Type{s.Apply(in), s.Apply(x), s.Apply(meta(1 + r.next(5)))}
			if !kept(in, x) || !apart(append(l, in, x)...) {
				t.Fatal("Apply shares", types.Print(x))
			}
			for _, got := range append(l, in) {
				spoil(got)
			}
			for _, n := range [][]int{s.Known(), s.Known()} {
				clear(n[:cap(n)])
			}
			if !knows(s, want) || !equal(s.Apply(x), want.put(x)) {
				t.Fatal("Apply gave what is kept", types.Print(x))
			}
		}
	}
}

// Things that the chapter does not allow are told no promise of, but nothing panics.
func TestBadTypes(t *testing.T) {
	bad := []api.Type{
		{}, {Form: 9}, {Form: -1, Args: []api.Type{m1}}, {Form: api.TApp}, {Form: api.TAll, Name: "a"}, {Form: api.TApp, Args: []api.Type{m1}},
		{Form: api.TApp, Args: []api.Type{m1, m2, m1}}, {Form: api.TAll, Name: "a", Args: []api.Type{m1, m2}}, {Form: api.TVar, Name: "a", Args: []api.Type{m2}},
		{Form: api.TCon, Args: []api.Type{m1}}, {Form: api.TMeta, N: 1, Args: []api.Type{a, m1}}, {Form: 9, Args: []api.Type{{}, {Form: 9}}},
	}
	bad = append(bad, a, m1, list(m2), all("a", m1))
	for _, x := range bad {
		for _, y := range bad {
			s := unify.New()
			for _, p := range []asked{{x, y}, {m1, x}, {app(x, y), app(y, x)}, {m2, all("b", y)}, {m3, app(x, m1)}, {m1, m2}} {
				if e := s.Unify(p.x, p.y); e != api.OK && e != api.ErrUnify && e != api.ErrLoop {
					t.Error(x, y, e)
				}
				s.Apply(app(p.x, p.y))
				s.Known()
			}
			for _, names := range [][]string{nil, {"a"}, {""}, {"a", "a"}, {"a", "b", ""}} {
				if by, is := unify.Match(names, x, y); is && len(by) != len(names) || !is && len(by) != 0 {
					t.Error(names, x, y, by, is)
				}
			}
		}
	}
}
