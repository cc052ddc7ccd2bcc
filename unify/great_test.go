package unify_test

import (
	"slices"
	"testing"

	"fugue/api"
	"fugue/unify"
)

// P9.2: a type of 500 is not too great, one of 501 is: of what is learnt, and of all that was known.
func TestTooGreat(t *testing.T) {
	long := slices.Concat([]asked{{m2, wide(250, m1)}}, []asked{{m3, wide(2, m2)}})
	for i, c := range []struct {
		before []asked
		asked
		want api.Errno
	}{
		{nil, asked{m1, wide(500, integer)}, api.OK}, {nil, asked{m1, wide(501, integer)}, api.ErrTooGreat},
		{nil, asked{m1, wide(500, m2)}, api.OK}, {nil, asked{m1, wide(501, m2)}, api.ErrTooGreat},
		{nil, asked{m1, all("a", wide(499, a))}, api.OK}, {nil, asked{m1, all("a", wide(500, a))}, api.ErrTooGreat},
		{nil, asked{m1, fun(wide(498, a), b)}, api.OK}, {nil, asked{m1, fun(wide(499, a), b)}, api.ErrTooGreat},
		// Types of which no number is one may be as great as they like.
		{nil, asked{wide(600, integer), wide(600, integer)}, api.OK}, {nil, asked{wide(600, m1), wide(600, integer)}, api.OK},
		{nil, asked{wide(600, m1), wide(600, m2)}, api.OK}, {nil, asked{all("a", wide(600, a)), all("b", wide(600, b))}, api.OK},
		// What was known grows by what is learnt, each time that it stands there.
		{long, asked{m1, integer}, api.OK}, {long, asked{m1, m4}, api.OK}, {long, asked{m1, list(a)}, api.ErrTooGreat}, {long, asked{m1, all("a", a)}, api.ErrTooGreat},
		{long, asked{m4, list(m3)}, api.ErrTooGreat}, {long, asked{m4, list(m2)}, api.OK}, {long, asked{m4, wide(2, m2)}, api.OK}, {long, asked{m4, wide(2, row(m2, a))}, api.ErrTooGreat},
		{[]asked{{m1, wide(200, m2)}, {m3, wide(100, m2)}}, asked{m2, wide(2, a)}, api.OK}, {[]asked{{m1, wide(200, m2)}, {m3, wide(100, m2)}}, asked{m2, wide(3, a)}, api.ErrTooGreat},
		{[]asked{{m3, wide(100, m2)}, {m1, wide(200, m2)}}, asked{m2, wide(3, a)}, api.ErrTooGreat},
		{[]asked{{m4, wide(125, m1)}, {m4, wide(125, m2)}, {m1, m3}}, asked{m2, wide(4, a)}, api.OK}, {[]asked{{m4, wide(125, m1)}, {m2, m1}, {m2, m3}}, asked{m3, wide(5, a)}, api.ErrTooGreat},
		{[]asked{{m1, row(m2, wide(498, a))}}, asked{m2, list(a)}, api.OK}, {[]asked{{m1, row(m2, wide(499, a))}}, asked{m2, list(a)}, api.ErrTooGreat},
		{[]asked{{m1, row(m2, wide(400, a))}, {m3, row(m1, wide(99, a))}}, asked{m2, a}, api.OK}, {[]asked{{m1, row(m2, wide(400, a))}, {m3, row(m1, wide(99, a))}}, asked{m2, list(a)}, api.ErrTooGreat},
		// What numbers that have become one stand in grows, whichever of them stood there.
		{[]asked{{m3, wide(100, m1)}, {m4, wide(200, m2)}, {m1, m2}}, asked{m1, wide(2, a)}, api.OK}, {[]asked{{m3, wide(100, m1)}, {m4, wide(200, m2)}, {m1, m2}}, asked{m1, wide(3, a)}, api.ErrTooGreat},
		{[]asked{{m3, wide(200, m1)}, {m4, wide(100, m2)}, {m1, m2}}, asked{m2, wide(3, a)}, api.ErrTooGreat}, {[]asked{{m1, m2}, {m4, wide(200, m2)}, {m3, wide(100, m1)}}, asked{m1, wide(3, a)}, api.ErrTooGreat},
		{[]asked{{m4, row(wide(100, m1), wide(100, m2))}, {m1, m3}}, asked{row(m1, m2), row(wide(2, a), wide(3, a))}, api.OK},
		{[]asked{{m4, row(wide(100, m1), wide(100, m2))}, {m1, m3}}, asked{row(m1, m2), row(wide(3, a), wide(3, a))}, api.ErrTooGreat},
		// What is learnt of one in the same row counts.
		{nil, asked{row(m1, m2), row(wide(100, m2), wide(5, a))}, api.OK}, {nil, asked{row(m1, m2), row(wide(100, m2), wide(6, a))}, api.ErrTooGreat},
		{nil, asked{row(m2, m1), row(wide(5, a), wide(100, m2))}, api.OK}, {nil, asked{row(m2, m1), row(wide(6, a), wide(100, m2))}, api.ErrTooGreat},
		{nil, asked{row(m1, m2, m3), row(wide(10, m2), wide(10, m3), wide(5, a))}, api.OK}, {nil, asked{row(m1, m2, m3), row(wide(10, m2), wide(10, m3), wide(6, a))}, api.ErrTooGreat},
		{nil, asked{row(m3, m2, m1), row(wide(6, a), wide(10, m3), wide(10, m2))}, api.ErrTooGreat}, {nil, asked{row(m2, m3, m1), row(wide(10, m3), wide(6, a), wide(10, m2))}, api.ErrTooGreat},
	} {
		s, want := told(t, c.before...), said{}
		for _, p := range c.before {
			want, _ = want.unify(p.x, p.y)
		}
		next, is := want.unify(c.x, c.y)
		if e := s.Unify(c.x, c.y); e != c.want || is != c.want || !knows(s, next) {
			t.Errorf("%d: %v, %v", i, e, is)
		}
	}
}

// P9.2: however often it is refused, just as much may be learnt then as before.
func TestRefusedLeavesSizes(t *testing.T) {
	s := told(t, asked{m1, wide(100, m2)}, asked{m3, row(wide(2, m1), wide(100, m2))}, asked{m4, m2})
	for range 50 {
		for want, p := range map[api.Errno]asked{
			api.ErrTooGreat: {row(meta(8), m2), row(m4, list(a))},
			api.ErrUnify:    {row(meta(5), m4, meta(6), a), row(list(m2), integer, list(m3), b)},
			api.ErrLoop:     {row(meta(5), meta(6), meta(7), m2), row(m3, meta(5), list(m4), meta(7))},
		} {
			if e := s.Unify(p.x, p.y); e != want {
				t.Fatal(e, want)
			}
		}
	}
	// ?3 is of 300: twice ?1's 100, and 100.
	if e := s.Unify(meta(9), row(m3, wide(200, a))); e != api.OK {
		t.Error(e)
	}
	if e := s.Unify(meta(10), row(m3, wide(201, a))); e != api.ErrTooGreat {
		t.Error(e)
	}
	if e := s.Unify(m2, meta(11)); e != api.OK {
		t.Error(e)
	}
	if e := s.Unify(meta(11), integer); e != api.OK || !knows(s, said{1: wide(100, integer), 2: integer, 3: row(wide(2, m1), wide(100, integer)), 4: integer, 9: row(m3, wide(200, a)), 11: integer}) {
		t.Error(e, s.Known())
	}
}

const many = 1 << 16

// R1: types as deep as the bound says, and wide ones.
func TestDeep(t *testing.T) {
	const deep = many - 8
	left, right, forall := m1, m1, m1
	other, third, fourth := integer, integer, integer
	for range deep {
		left, right, forall = app(left, a), app(a, right), all("a", forall)
		other, third, fourth = app(other, a), app(a, third), all("b", fourth)
	}
	for i, p := range []asked{{left, other}, {right, third}, {app(m1, forall), app(integer, fourth)}} {
		s := unify.New()
		if e := s.Unify(p.x, p.y); e != api.OK || !knows(s, said{1: integer}) {
			t.Error(i, e)
		}
		if e := s.Unify(s.Apply(p.x), p.y); e != api.OK {
			t.Error(i, e)
		}
		if e := s.Unify(m2, p.x); e != api.ErrTooGreat {
			t.Error(i, e)
		}
		if e := unify.New().Unify(m1, p.x); e != api.ErrLoop {
			t.Error(i, e)
		}
	}
	if by, is := unify.Match([]string{"a"}, left, left); !is || !equal(by[0], a) {
		t.Error(by, is)
	}
	if _, is := unify.Match([]string{"a"}, right, third); is {
		t.Error("a number is a type")
	}
}

// R1: many numbers, in each row, are made one, and become known, in little time.
func TestManyNumbers(t *testing.T) {
	for _, next := range []func(i int) (int, int){
		func(i int) (int, int) { return i + 1, i + 2 },
		func(i int) (int, int) { return many - i, many - i - 1 },
		func(i int) (int, int) { return 1, i + 2 },
		func(i int) (int, int) { return many, i + 1 },
		func(i int) (int, int) { return (i * 5) % many, (i*5 + 5) % many },
	} {
		s := unify.New()
		for i := range many - 1 {
			x, y := next(i)
			if e := s.Unify(meta(x), meta(y)); e != api.OK {
				t.Fatal(x, y, e)
			}
			s.Apply(meta(many))
			s.Apply(meta(x))
		}
		if n := len(s.Known()); n != many-1 {
			t.Error(n)
		}
		if e := s.Unify(meta(many/2), list(integer)); e != api.OK {
			t.Error(e)
		}
		for i := 1; i < many; i++ {
			if !equal(s.Apply(meta(i)), list(integer)) {
				t.Fatal(i)
			}
		}
	}
}

// R1: where much stands in many types, what grows is asked for but a few times, and is taken back.
func TestManyUsers(t *testing.T) {
	s := unify.New()
	for i := range many {
		if e := s.Unify(meta(i+10), row(m1, meta(i%9+1), a)); e != api.OK {
			t.Fatal(i, e)
		}
	}
	for range 20 {
		if e := s.Unify(row(m1, m2, a), row(m2, list(a), b)); e != api.ErrUnify {
			t.Error(e)
		}
	}
	wide := wide(many, meta(many))
	if e := s.Unify(meta(-1), wide); e != api.ErrTooGreat {
		t.Error(e)
	}
	if e := s.Unify(m1, app(wide, m1)); e != api.ErrLoop {
		t.Error(e)
	}
	if e := s.Unify(row(m1, m2), row(m2, list(a))); e != api.OK {
		t.Error(e)
	}
	for i := range many {
		last := meta(i%9 + 1)
		if i%9 < 2 {
			last = list(a)
		}
		if !equal(s.Apply(meta(i+10)), row(list(a), last, a)) {
			t.Fatal(i)
		}
	}
}

// R1: what is within a great type again and again is gone through once.
func TestManyTimesWithin(t *testing.T) {
	s := told(t, asked{m1, wide(400, m2)})
	if e := s.Unify(m3, wide(many, m1)); e != api.ErrTooGreat {
		t.Error(e)
	}
	if e := s.Unify(m2, wide(many, m1)); e != api.ErrLoop {
		t.Error(e)
	}
	if e := s.Unify(wide(1000, m1), wide(1000, m1)); e != api.OK {
		t.Error(e)
	}
}
