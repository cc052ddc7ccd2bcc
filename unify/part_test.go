package unify

import (
	"slices"
	"testing"

	"fugue/api"
	"fugue/types"
)

// drawn is what a part is, written out: its users by their lowest numbers.
type drawn struct {
	up, many, least, size int
	is                    bool
	t                     string
	users                 []int
}

// draw is all that a Subst keeps; no face tells it.
func draw(s *Subst) map[int]drawn {
	out := map[int]drawn{}
	for n, p := range s.parts {
		d := drawn{many: p.many, least: p.least, size: p.size, is: p.is, t: types.Print(p.t)}
		if p.up != nil {
			d.up = p.up.least
		}
		for _, u := range p.users {
			d.users = append(d.users, u.least)
		}
		out[n] = d
	}
	return out
}

func alike(a, b map[int]drawn) bool {
	if len(a) != len(b) {
		return false
	}
	for n, x := range a {
		y, ok := b[n]
		if !ok || x.up != y.up || x.many != y.many || x.least != y.least || x.size != y.size || x.is != y.is || x.t != y.t || !slices.Equal(x.users, y.users) {
			return false
		}
	}
	return true
}

// P9.2: a refusal leaves all that is kept as it was, and keeps nothing more.
func TestRefusedLeavesWhatIsKept(t *testing.T) {
	a, b := types.Var("a"), types.Var("b")
	m := types.Meta
	row := func(l ...api.Type) api.Type { return types.App(l[0], l[1:]...) }
	s := New()
	for _, p := range [][2]api.Type{{m(1), row(m(2), m(3), m(2))}, {m(4), m(5)}, {m(6), m(3)}, {m(7), row(m(1), m(4), m(5))}} {
		if e := s.Unify(p[0], p[1]); e != api.OK {
			t.Fatal(e)
		}
	}
	refuse := func(l ...[2]api.Type) {
		t.Helper()
		was := draw(s)
		for i, p := range l {
			if e := s.Unify(p[0], p[1]); e == api.OK || !alike(draw(s), was) {
				t.Fatalf("%d: %v: %v, not %v", i, e, draw(s), was)
			}
		}
	}
	l := [][2]api.Type{
		{row(m(8), a), row(m(9), b)},
		{row(m(8), m(2), m(4), a), row(m(9), m(8), m(9), b)},
		{row(m(2), m(3), a), row(row(m(5), m(10)), a, b)},
		{row(m(4), m(6), a), row(row(m(3), m(3)), row(m(14), m(15)), b)},
		{row(m(2), m(1)), row(m(16), m(2))},
		{m(2), m(7)},
		{row(m(2), m(7)), row(row(m(8), m(9)), m(9))},
	}
	refuse(l...)
	if e := s.Unify(row(m(3), m(4), m(2), m(11)), row(m(5), m(2), row(m(12), m(13)), m(1))); e != api.OK {
		t.Fatal(e)
	}
	refuse(l...)
}

// R1: whichever numbers are made one, and whatever was refused between, each is but a few steps from its part.
func TestFewSteps(t *testing.T) {
	const many, most = 1 << 12, 13
	for _, next := range []func(i int) (int, int){
		func(i int) (int, int) { return i, i + 1 },
		func(i int) (int, int) { return many - i, many - i - 1 },
		func(i int) (int, int) { return i &^ (i & -i), i },
		func(i int) (int, int) { return 0, i + 1 },
	} {
		s := New()
		for i := range many {
			x, y := next(i)
			refused := [2]api.Type{types.App(types.Meta(x), types.Con("A")), types.App(types.Meta(y), types.Con("B"))}
			if e := s.Unify(refused[0], refused[1]); e != api.ErrUnify {
				t.Fatal(x, y, e)
			}
			if e := s.Unify(types.Meta(x), types.Meta(y)); e != api.OK {
				t.Fatal(x, y, e)
			}
		}
		for n, p := range s.parts {
			steps := 0
			for ; p.up != nil; p = p.up {
				steps++
			}
			if steps > most {
				t.Fatal(n, "is", steps, "steps from its part")
			}
		}
	}
}
