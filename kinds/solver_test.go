package kinds_test

import (
	"slices"
	"testing"

	"fugue/api"
	"fugue/kinds"
)

var star = kinds.Term{Form: kinds.KStar}

func v(n int) kinds.Term { return kinds.Term{Form: kinds.KVar, N: n} }

func arrow(a, b kinds.Term) kinds.Term {
	return kinds.Term{Form: kinds.KArrow, Args: []kinds.Term{a, b}}
}

// row is arrows to the right.
func row(l ...kinds.Term) kinds.Term {
	t := l[len(l)-1]
	for i := len(l) - 2; i >= 0; i-- {
		t = arrow(l[i], t)
	}
	return t
}

// made is a solver with so many variables.
func made(many int) *kinds.Solver {
	s := kinds.New()
	for range many {
		s.Fresh()
	}
	return s
}

// terms is all terms up to a depth, of the variables from 1 up to most.
func terms(depth, most int) []kinds.Term {
	all := []kinds.Term{star}
	for n := range most {
		all = append(all, v(n+1))
	}
	if depth == 0 {
		return all
	}
	below := terms(depth-1, most)
	for _, a := range below {
		for _, b := range below {
			all = append(all, arrow(a, b))
		}
	}
	return all
}

// sameTerm tells whether two terms are the same, with what is said of them, at every depth.
func sameTerm(a, b kinds.Term) bool {
	return a.Form == b.Form && a.N == b.N && slices.EqualFunc(a.Args, b.Args, sameTerm)
}

// cloned is a term in other memory.
func cloned(t kinds.Term) kinds.Term {
	args := slices.Clone(t.Args)
	for i := range args {
		args[i] = cloned(args[i])
	}
	t.Args = args
	return t
}

// spoilTerm overwrites a term's memory, at every depth.
func spoilTerm(t kinds.Term) {
	for i := range t.Args {
		spoilTerm(t.Args[i])
		t.Args[i] = row(star, star, star)
	}
}

// said is what a solver knows by the document's words, written another way: each variable's term,
// in which no variable is that has one.
type said map[int]kinds.Term

// put is a term with all that is known.
func (s said) put(t kinds.Term) kinds.Term {
	switch t.Form {
	case kinds.KVar:
		if x, ok := s[t.N]; ok {
			return x
		}
	case kinds.KArrow:
		return arrow(s.put(t.Args[0]), s.put(t.Args[1]))
	}
	return t
}

func has(t kinds.Term, n int) bool {
	return t.Form == kinds.KVar && t.N == n || slices.ContainsFunc(t.Args, func(a kinds.Term) bool { return has(a, n) })
}

// learn tells what is known with one more variable's term.
func (s said) learn(n int, t kinds.Term) said {
	out, one := said{n: t}, said{n: t}
	for k, x := range s {
		out[k] = one.put(x)
	}
	return out
}

// equal is Equal: what is known then, or the same as before.
func (s said) equal(a, b kinds.Term) (said, api.Errno) {
	a, b = s.put(a), s.put(b)
	if a.Form == kinds.KVar && b.Form == kinds.KVar {
		if a.N == b.N {
			return s, api.OK
		}
		return s.learn(max(a.N, b.N), v(min(a.N, b.N))), api.OK
	}
	if b.Form == kinds.KVar {
		a, b = b, a
	}
	switch {
	case a.Form == kinds.KVar && has(b, a.N):
		return s, api.ErrLoop
	case a.Form == kinds.KVar:
		return s.learn(a.N, b), api.OK
	case a.Form != b.Form:
		return s, api.ErrKind
	}
	next := s
	for i := range a.Args {
		var e api.Errno
		if next, e = next.equal(a.Args[i], b.Args[i]); e != api.OK {
			return s, e
		}
	}
	return next, api.OK
}

// kind is Kind.
func (s said) kind(t kinds.Term) api.Kind {
	t = s.put(t)
	if t.Form != kinds.KArrow {
		return of()
	}
	return of(append([]api.Kind{s.kind(t.Args[0])}, s.kind(t.Args[1]).From...)...)
}

// pair is two terms that are to be one.
type pair struct{ a, b kinds.Term }

// pairs is all pairs of these.
func pairs(l []kinds.Term) []pair {
	var all []pair
	for _, a := range l {
		for _, b := range l {
			all = append(all, pair{a, b})
		}
	}
	return all
}

// holds asks a solver these, one behind the other, and holds it against the document's words each time.
func holds(t *testing.T, vars int, l ...pair) {
	t.Helper()
	s, words := made(vars), said{}
	for i, p := range l {
		var want api.Errno
		words, want = words.equal(p.a, p.b)
		if got := s.Equal(p.a, p.b); got != want {
			t.Fatalf("%v: the %dth is %v, not %v", l, i, got, want)
		}
		if want == api.OK && !equal(s.Kind(p.a), s.Kind(p.b)) {
			t.Fatalf("%v: behind the %dth, %v and %v", l, i, s.Kind(p.a), s.Kind(p.b))
		}
		for n := 1; n <= vars; n++ {
			if got, want := s.Kind(v(n)), words.kind(v(n)); !equal(got, want) {
				t.Fatalf("%v: behind the %dth, %d is %v, not %v", l, i, n, got, want)
			}
		}
		for _, x := range []kinds.Term{p.a, p.b} {
			if got, want := s.Kind(x), words.kind(x); !equal(got, want) {
				t.Fatalf("%v: behind the %dth, %v is %v, not %v", l, i, x, got, want)
			}
		}
	}
}

// Words: the forms, from 1 on, in their row.
func TestForms(t *testing.T) {
	if kinds.KVar != 1 || kinds.KStar != 2 || kinds.KArrow != 3 {
		t.Error(kinds.KVar, kinds.KStar, kinds.KArrow)
	}
}

// P3.3: variables of the numbers 1, 2, 3 and so on, each solver's its own.
func TestFresh(t *testing.T) {
	s, other := kinds.New(), kinds.New()
	for n := 1; n <= 1000; n++ {
		if got := s.Fresh(); !sameTerm(got, v(n)) {
			t.Fatalf("the %dth: %v", n, got)
		}
		s.Equal(v(n), star)
		s.Equal(arrow(v(n), v(n+1)), star)
		s.Kind(v(n))
	}
	if got := other.Fresh(); !sameTerm(got, v(1)) || len(other.Kind(got).From) != 0 || other.Equal(got, arrow(star, star)) != api.OK {
		t.Error("another solver's:", got)
	}
}

// P3.3: a kind as a term, of arrows to the right.
func TestOf(t *testing.T) {
	one := arrow(star, star)
	for _, x := range []struct {
		k    api.Kind
		want kinds.Term
	}{
		{of(), star},
		{api.Kind{From: []api.Kind{}}, star},
		{of(of()), one},
		{of(of(), of(), of()), arrow(star, arrow(star, arrow(star, star)))},
		{of(of(of())), arrow(one, star)},
		{of(of(of()), of(), of(of(of()), of())), arrow(one, arrow(star, arrow(arrow(one, arrow(star, star)), star)))},
	} {
		k := roomy(x.k)
		got := kinds.Of(k)
		if !sameTerm(got, x.want) || !equal(k, x.k) || !room(k) {
			t.Errorf("%v: %v, not %v", x.k, got, x.want)
		}
		spoil(k)
		if !sameTerm(got, x.want) {
			t.Errorf("%v: its term keeps its memory", x.k)
		}
	}
}

// P3.3, P3.5: the kind of a kind's term is that kind.
func TestKindOfTerm(t *testing.T) {
	s := made(3)
	for _, k := range append(some(3, 2), chain(40), of(make([]api.Kind, 40)...)) {
		if got := s.Kind(kinds.Of(k)); !equal(got, k) {
			t.Errorf("%v: %v", k, got)
		}
		if e := s.Equal(kinds.Of(k), kinds.Of(k)); e != api.OK {
			t.Errorf("%v and itself: %v", k, e)
		}
	}
}

// P3.5: variables of which nothing is known, and such as stand at an arrow's end.
func TestKind(t *testing.T) {
	s := made(6)
	if e := s.Equal(v(2), arrow(v(3), v(4))); e != api.OK {
		t.Fatal(e)
	}
	if e := s.Equal(v(4), row(star, v(5))); e != api.OK {
		t.Fatal(e)
	}
	for _, x := range []struct {
		t    kinds.Term
		want string
	}{
		{star, "*"},
		{v(1), "*"},
		{v(99), "*"},
		{arrow(v(1), v(6)), "* -> *"},
		{v(2), "* -> * -> *"},
		{v(4), "* -> *"},
		{arrow(v(2), v(2)), "(* -> * -> *) -> * -> * -> *"},
		{arrow(arrow(v(1), star), v(4)), "(* -> *) -> * -> *"},
	} {
		if got := kinds.Print(s.Kind(x.t)); got != x.want {
			t.Errorf("%v: %q, not %q", x.t, got, x.want)
		}
	}
	for range 2 { // asked again: that it was told makes nothing known
		if e := s.Equal(v(1), arrow(star, star)); e != api.OK {
			t.Error(e)
		}
	}
}

// P3.4: what is refused, and which of two refusals is told.
func TestEqualRefuses(t *testing.T) {
	one := arrow(star, star)
	loop := pair{v(1), arrow(v(1), star)}
	clash := pair{star, one}
	for _, x := range []struct {
		a, b kinds.Term
		want api.Errno
	}{
		{star, star, api.OK},
		{one, one, api.OK},
		{v(1), v(1), api.OK},
		{arrow(v(1), v(2)), arrow(v(2), v(1)), api.OK},
		{star, one, api.ErrKind},
		{one, star, api.ErrKind},
		{arrow(one, star), arrow(star, one), api.ErrKind},
		{arrow(v(1), v(1)), arrow(star, one), api.ErrKind},
		{v(1), arrow(v(1), star), api.ErrLoop},
		{arrow(star, v(1)), v(1), api.ErrLoop},
		{v(1), row(star, star, arrow(arrow(star, v(1)), star), star), api.ErrLoop},
		{arrow(v(1), v(2)), arrow(arrow(v(2), star), arrow(v(1), star)), api.ErrLoop},
		{row(v(1), v(2), v(3)), row(arrow(v(2), star), arrow(v(3), star), arrow(v(1), star)), api.ErrLoop},
		{arrow(loop.a, clash.a), arrow(loop.b, clash.b), api.ErrLoop},
		{arrow(loop.b, clash.b), arrow(loop.a, clash.a), api.ErrLoop},
		{arrow(clash.a, loop.a), arrow(clash.b, loop.b), api.ErrKind},
		{arrow(clash.b, loop.b), arrow(clash.a, loop.a), api.ErrKind},
		{arrow(arrow(star, loop.a), clash.a), arrow(arrow(star, loop.b), clash.b), api.ErrLoop},
		{arrow(arrow(star, clash.a), loop.a), arrow(arrow(star, clash.b), loop.b), api.ErrKind},
		{row(v(2), v(1), clash.a), row(arrow(v(1), star), v(2), clash.b), api.ErrLoop},
		{row(v(2), clash.a, v(1)), row(arrow(v(1), star), clash.b, v(2)), api.ErrKind},
	} {
		if got := made(3).Equal(x.a, x.b); got != x.want {
			t.Errorf("%v, %v: %v, not %v", x.a, x.b, got, x.want)
		}
		if got := made(3).Equal(x.b, x.a); got != x.want {
			t.Errorf("%v, %v: %v, not %v", x.b, x.a, got, x.want)
		}
	}
}

// P3.4: on an error nothing more is known, of what was met ahead of it neither.
func TestRefusedTeachesNothing(t *testing.T) {
	one := arrow(star, star)
	for _, bad := range []pair{
		{row(v(1), v(2), v(3), star), row(one, v(1), v(4), one)},
		{row(v(1), v(4), v(3)), row(one, v(2), arrow(v(3), star))},
	} {
		for _, good := range []pair{
			{v(1), star}, {v(1), one}, {v(2), star}, {v(2), one}, {v(3), star}, {v(3), one}, {v(4), star}, {v(4), one}, {v(1), arrow(v(2), v(3))},
		} {
			s := made(4)
			if e := s.Equal(bad.a, bad.b); e == api.OK {
				t.Fatal(bad, e)
			}
			for n := 1; n <= 4; n++ {
				if len(s.Kind(v(n)).From) != 0 {
					t.Errorf("behind %v, %d is %v", bad, n, s.Kind(v(n)))
				}
			}
			if e := s.Equal(good.a, good.b); e != api.OK || !equal(s.Kind(good.a), s.Kind(good.b)) {
				t.Errorf("behind %v, %v: %v", bad, good, e)
			}
			holds(t, 4, bad, good, bad)
		}
	}
}

// P3.4: two variables that are one, in whatever row they became so, and of whatever number.
func TestVariablesThatAreOne(t *testing.T) {
	one := arrow(star, star)
	for _, ask := range pairs([]kinds.Term{v(1), v(2), v(3), v(4)}) {
		for _, more := range pairs([]kinds.Term{v(1), v(2), v(3), v(4)}) {
			for n := 1; n <= 4; n++ {
				holds(t, 4, ask, more, pair{v(n), one}, pair{v(1), star}, pair{v(2), star}, pair{v(3), star}, pair{v(4), star})
				holds(t, 4, pair{v(n), one}, ask, more, pair{v(1), star}, pair{v(2), star}, pair{v(3), star}, pair{v(4), star})
				holds(t, 4, ask, pair{v(n), arrow(v(5), star)}, more, pair{v(4), arrow(v(3), star)}, pair{v(1), v(4)})
			}
		}
	}
}

// P3.4: all pairs of small terms, and what is known then.
func TestEqualAllSmall(t *testing.T) {
	for _, p := range pairs(terms(2, 2)) {
		holds(t, 2, p, pair{v(1), star}, pair{v(2), arrow(star, star)})
	}
}

// P3.4: all rows of two pairs of smaller terms, and some of more.
func TestEqualAllRows(t *testing.T) {
	all := pairs(terms(1, 3))
	for i, p := range all {
		for j, q := range all {
			r, u := all[(7*i+11*j)%len(all)], all[(13*i+5*j)%len(all)]
			holds(t, 3, p, q, r, u)
		}
	}
}

// P3.4: greater terms, each made of those ahead of it.
func TestEqualGreater(t *testing.T) {
	small := terms(1, 4)
	next := func(i int) kinds.Term { return small[i%len(small)] }
	for i := range 20000 {
		a := row(next(i), next(3*i+1), arrow(next(7*i), next(i/5)), next(i/3))
		b := row(next(i/7), arrow(next(i/2), next(i/11)), next(5*i+2), next(i/13))
		holds(t, 4, pair{next(i / 17), next(11 * i)}, pair{a, b}, pair{b, next(i / 19)}, pair{next(i), next(i / 23)})
	}
}

// rows tells f all rows of a list's items.
func rows[T any](l []T, f func(l []T)) {
	if len(l) == 0 {
		f(nil)
		return
	}
	for i := range l {
		rest := append(slices.Clone(l[:i]), l[i+1:]...)
		rows(rest, func(more []T) { f(append([]T{l[i]}, more...)) })
	}
}

// P3.6: in whatever row Equals are asked, and whatever stands left, whether one is refused is the same, and so are all Kinds.
func TestEqualInWhateverRow(t *testing.T) {
	small := terms(1, 3)
	next := func(i int) kinds.Term { return small[i%len(small)] }
	for i := range 3000 {
		l := []pair{
			{next(i), next(i / 3)}, {next(7*i + 1), next(i / 20)}, {next(i / 9), arrow(next(i/31), next(13*i))}, {v(1 + i%3), next(i / 57)},
		}
		first, told := "", false
		rows(l, func(l []pair) {
			s, refused := made(3), false
			for k, p := range l {
				if k%2 == 1 {
					p.a, p.b = p.b, p.a
				}
				e := s.Equal(p.a, p.b)
				refused = refused || e != api.OK
				if e == api.OK && !equal(s.Kind(p.a), s.Kind(p.b)) {
					t.Fatalf("%v: %v and %v", l, s.Kind(p.a), s.Kind(p.b))
				}
			}
			print := "refused"
			if !refused {
				print = kinds.Print(s.Kind(row(v(1), v(2), v(3), star)))
			}
			if told && print != first {
				t.Fatalf("%v: %q, not %q", l, print, first)
			}
			first, told = print, true
		})
	}
}

// R4: terms that are handed in are neither changed nor kept; what is told is in memory of its own.
func TestTermsInMemoryOfTheirOwn(t *testing.T) {
	small := terms(2, 2)
	for i, x := range small {
		a, b := cloned(row(x, v(3), star)), cloned(row(v(3), x, star))
		wasA, wasB := cloned(a), cloned(b)
		s := made(3)
		e := s.Equal(a, b)
		got := s.Kind(v(3))
		want := s.Kind(x)
		if !sameTerm(a, wasA) || !sameTerm(b, wasB) {
			t.Fatalf("the %dth is changed: %v, %v", i, a, b)
		}
		spoilTerm(a)
		spoilTerm(b)
		if e != api.OK {
			if len(got.From) != 0 {
				t.Fatalf("%v: %v", x, got)
			}
			continue
		}
		if again := s.Kind(v(3)); !equal(again, want) || !equal(got, want) {
			t.Fatalf("%v: %v, then %v, not %v", x, got, again, want)
		}
		spoil(got)
		if again := s.Kind(v(3)); !equal(again, want) || s.Equal(v(3), kinds.Of(want)) != api.OK {
			t.Fatalf("%v: %v, not %v", x, again, want)
		}
	}
	s := made(2)
	s.Equal(v(1), row(star, star))
	got := s.Kind(row(v(1), v(1), v(1)))
	spoil(got.From[0])
	if !equal(got.From[1], of(of())) || !equal(s.Kind(v(1)), of(of())) {
		t.Error("what Kind tells shares memory")
	}
}

// R1: terms that would be of more than 2^100 parts, were all that is known written out.
func TestDoubledTermsEnd(t *testing.T) {
	const depth = 120
	x := func(i int) kinds.Term { return v(1 + i) }
	y := func(i int) kinds.Term { return v(1000 + i) }
	twice := func(a kinds.Term) kinds.Term { return arrow(a, a) }
	s := kinds.New()
	for i := depth - 1; i >= 0; i-- {
		if e := s.Equal(x(i), twice(x(i+1))); e != api.OK {
			t.Fatal(e)
		}
		if e := s.Equal(twice(y(i+1)), y(i)); e != api.OK {
			t.Fatal(e)
		}
	}
	if e := s.Equal(x(0), y(0)); e != api.OK {
		t.Error(e)
	}
	if e := s.Equal(x(depth), arrow(star, y(0))); e != api.ErrLoop {
		t.Error(e)
	}
	if e := s.Equal(x(depth), star); e != api.OK || len(s.Kind(y(depth)).From) != 0 {
		t.Error(e)
	}
	if e := s.Equal(y(depth), arrow(star, star)); e != api.ErrKind {
		t.Error(e)
	}
	if e := s.Equal(y(depth/2), x(depth/2+1)); e != api.ErrKind {
		t.Error(e)
	}
	if got := s.Kind(y(depth - 2)); kinds.Print(got) != "(* -> *) -> * -> *" {
		t.Error(got)
	}
}

// R1: the same, with variables at even depths on one side, at odd ones on the other: no two ever meet.
func TestDoubledTermsThatCrossEnd(t *testing.T) {
	const depth = 120
	x := func(i int) kinds.Term { return v(1 + i) }
	y := func(i int) kinds.Term { return v(1000 + i) }
	four := func(a kinds.Term) kinds.Term { return arrow(arrow(a, a), arrow(a, a)) }
	s := kinds.New()
	for i := range depth {
		if e := s.Equal(x(i), four(x(i+1))); e != api.OK {
			t.Fatal(e)
		}
		if e := s.Equal(y(i), four(y(i+1))); e != api.OK {
			t.Fatal(e)
		}
	}
	if e := s.Equal(x(0), arrow(y(0), y(0))); e != api.OK {
		t.Fatal(e)
	}
	if e := s.Equal(y(depth-1), arrow(x(depth), x(depth))); e != api.OK {
		t.Error(e)
	}
	if e := s.Equal(y(depth-2), x(depth)); e != api.ErrLoop {
		t.Error(e)
	}
}

// R1: many variables, all one, and terms as deep, and as wide, as may be.
func TestMany(t *testing.T) {
	s := kinds.New()
	for n := 1; n < 3000; n++ {
		if e := s.Equal(v(n), v(n+1)); e != api.OK {
			t.Fatal(e)
		}
	}
	if e := s.Equal(v(1500), arrow(star, star)); e != api.OK {
		t.Fatal(e)
	}
	for n := 1; n <= 3000; n++ {
		if !equal(s.Kind(v(n)), of(of())) {
			t.Fatal(n, s.Kind(v(n)))
		}
	}
	left, right := v(5000), v(5001)
	for range 39 {
		left, right = arrow(left, star), arrow(right, v(5002))
	}
	if e := s.Equal(left, right); e != api.OK || !equal(s.Kind(right), chain(39)) {
		t.Error(e)
	}
	if e := s.Equal(v(5000), right); e != api.ErrLoop {
		t.Error(e)
	}
	wide, other := v(6000), v(7000)
	for range 14 {
		wide, other = arrow(wide, wide), arrow(other, other)
	}
	if e := s.Equal(wide, other); e != api.OK || s.Equal(v(6000), other) != api.ErrLoop {
		t.Error(e)
	}
}
