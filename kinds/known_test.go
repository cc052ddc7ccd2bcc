package kinds

import (
	"maps"
	"slices"
	"testing"

	"fugue/api"
)

func sameTerm(a, b Term) bool {
	return a.Form == b.Form && a.N == b.N && slices.EqualFunc(a.Args, b.Args, sameTerm)
}

// P3.4: where variables are one, the one of the greater number is known to be the other one; no face tells it.
func TestGreaterIsKnownToBeTheOther(t *testing.T) {
	x, y, z, star := variable(1), variable(2), variable(3), Of(Star())
	one := arrow(star, star)
	for _, c := range []struct {
		asked [][2]Term
		want  map[int]Term
	}{
		{[][2]Term{{x, x}}, map[int]Term{}},
		{[][2]Term{{x, y}}, map[int]Term{2: x}},
		{[][2]Term{{y, x}}, map[int]Term{2: x}},
		{[][2]Term{{y, z}, {z, x}}, map[int]Term{2: x, 3: y}},
		{[][2]Term{{arrow(x, z), arrow(y, y)}}, map[int]Term{2: x, 3: x}},
		{[][2]Term{{y, one}, {x, y}}, map[int]Term{1: one, 2: x}},
		{[][2]Term{{y, arrow(z, star)}, {y, x}}, map[int]Term{1: arrow(z, star), 2: x}},
		{[][2]Term{{x, one}, {y, one}, {y, x}}, map[int]Term{1: one, 2: x}},
		{[][2]Term{{x, star}, {x, z}, {y, one}}, map[int]Term{1: star, 2: one, 3: x}},
		{[][2]Term{{z, arrow(one, star)}, {z, arrow(x, star)}}, map[int]Term{1: one, -1: x, 3: arrow(variable(-1), star)}},
	} {
		s := New()
		for _, p := range c.asked {
			if e := s.Equal(p[0], p[1]); e != api.OK {
				t.Fatal(c.asked, e)
			}
		}
		if !maps.EqualFunc(s.known, c.want, sameTerm) {
			t.Errorf("%v: %v, not %v", c.asked, s.known, c.want)
		}
	}
}

// P3.4: on an error what is known stands as it stood.
func TestRefusedLeavesWhatIsKnown(t *testing.T) {
	x, y, z, star := variable(1), variable(2), variable(3), Of(Star())
	s := New()
	s.Equal(y, arrow(z, star))
	was := maps.Clone(s.known)
	for want, p := range map[api.Errno][2]Term{
		api.ErrKind: {arrow(x, arrow(z, star)), arrow(y, arrow(star, arrow(star, star)))},
		api.ErrLoop: {arrow(x, z), arrow(star, y)},
	} {
		if e := s.Equal(p[0], p[1]); e != want || !maps.EqualFunc(s.known, was, sameTerm) {
			t.Errorf("%v: %v, %v, not %v", p, e, s.known, was)
		}
	}
}

// LANGUAGE 4: terms that may not be handed in are refused, and teach nothing; Kind ends of them, too.
func TestBadTerms(t *testing.T) {
	x, star := variable(1), Of(Star())
	for _, bad := range []Term{
		{}, {Form: -1}, {Form: 4}, {Form: 4, Args: []Term{x, x}}, {Form: KArrow}, {Form: KArrow, Args: []Term{x}}, {Form: KArrow, Args: []Term{x, x, x}},
		{Form: KStar, Args: []Term{x}}, {Form: KVar, N: 1, Args: []Term{x, x}}, variable(0), variable(-1), variable(-2), arrow(star, variable(-3)), arrow(Term{}, star),
	} {
		s := New()
		if e := s.Equal(variable(2), arrow(arrow(variable(3), star), arrow(star, star))); e != api.OK {
			t.Fatal(e)
		}
		was := maps.Clone(s.known)
		for _, p := range [][2]Term{{bad, bad}, {bad, x}, {x, bad}, {arrow(x, bad), arrow(star, star)}, {arrow(x, star), arrow(bad, star)}} {
			if e := s.Equal(p[0], p[1]); e != api.ErrArg || !maps.EqualFunc(s.known, was, sameTerm) {
				t.Errorf("%v: %v, %v", p, e, s.known)
			}
		}
		s.Kind(bad)
		s.Kind(arrow(bad, bad))
	}
}
