package unify_test

import (
	"testing"

	"fugue/api"
	"fugue/types"
	"fugue/unify"
)

// P9.1, P9.2, P9.4: rows of Unify, held against the document's words.
func TestRowsOfUnify(t *testing.T) {
	r := chance(9)
	seen := map[api.Errno]int{}
	for range 6000 {
		s, want := unify.New(), said{}
		metas := 2 + r.next(9)
		for range 14 {
			x := r.some(1+r.next(12), metas)
			y := r.some(1+r.next(6), metas)
			if r.next(2) == 0 {
				y = r.near(x, metas)
			}
			if r.next(3) == 0 {
				x = meta(1 + r.next(metas))
			}
			next, is := want.unify(x, y)
			seen[is]++
			if e := s.Unify(x, y); e != is {
				t.Fatalf("%s, %s: %v, not %v", types.Print(x), types.Print(y), e, is)
			}
			if is == api.OK && !same(s.Apply(x), s.Apply(y)) {
				t.Fatalf("%s, %s: not one", types.Print(x), types.Print(y))
			}
			if want = next; !knows(s, want) {
				t.Fatalf("%s, %s: %v", types.Print(x), types.Print(y), s.Known())
			}
			if z := r.some(1+r.next(9), metas+2); !equal(s.Apply(z), want.put(z)) {
				t.Fatalf("%s: %s", types.Print(z), types.Print(s.Apply(z)))
			}
		}
	}
	for _, e := range []api.Errno{api.OK, api.ErrUnify, api.ErrLoop} {
		if seen[e] < 5000 {
			t.Error(e, "came", seen[e], "times", seen)
		}
	}
}

// P9.2: rows of Unify by which types grow till they are too great.
func TestRowsThatGrow(t *testing.T) {
	r := chance(21)
	seen := map[api.Errno]int{}
	for range 400 {
		s, want := unify.New(), said{}
		metas := 6 + r.next(10)
		for range 30 {
			// Most of what is learnt is of lower numbers, as else types would be within themselves.
			n := 2 + r.next(metas)
			x, y := meta(n), meta(1+r.next(n-1))
			switch r.next(12) {
			case 0:
				y = fun(a, b)
			case 1, 2, 3, 4, 5:
				y = wide(2+r.next(9), y)
			case 6, 7, 8:
				y = row(y, wide(2+r.next(8), meta(1+r.next(n-1))), y)
			case 9:
				x, y = row(x, y), row(wide(2, y), list(meta(1+r.next(metas))))
			}
			next, is := want.unify(x, y)
			seen[is]++
			if e := s.Unify(x, y); e != is {
				t.Fatalf("%s, %s: %v, not %v", types.Print(x), types.Print(y), e, is)
			}
			if want = next; !knows(s, want) {
				t.Fatalf("%s, %s: %v", types.Print(x), types.Print(y), s.Known())
			}
		}
	}
	for _, e := range []api.Errno{api.OK, api.ErrUnify, api.ErrLoop, api.ErrTooGreat} {
		if seen[e] < 200 {
			t.Error(e, "came", seen[e], "times", seen)
		}
	}
}

// in is a type with types in the place of the numbers 1, 2 and so on.
func in(t api.Type, by []api.Type) api.Type {
	s := said{}
	for i, x := range by {
		s[i+1] = x
	}
	return s.put(t)
}

// P9.4: where other types make two the same, they are those that are known, with types in the place of what is not;
// so what is refused is made the same by none.
func TestAsLittleAsMayBe(t *testing.T) {
	var grounds, some []api.Type
	for _, l := range sized(3, []api.Type{integer, a}) {
		grounds = append(grounds, l...)
	}
	for _, l := range sized(5, []api.Type{m1, m2, integer, a}) {
		some = append(some, l...)
	}
	var bys [][]api.Type
	for _, x := range grounds {
		for _, y := range grounds {
			bys = append(bys, []api.Type{x, y})
		}
	}
	for _, x := range some {
		for _, y := range some {
			s := unify.New()
			e := s.Unify(x, y)
			if e == api.OK && !equal(s.Apply(x), s.Apply(y)) {
				t.Fatalf("%s, %s: not one", types.Print(x), types.Print(y))
			}
			for _, by := range bys {
				if !equal(in(x, by), in(y, by)) {
					continue
				}
				if e != api.OK {
					t.Fatalf("%s, %s: %v, but %v makes them one", types.Print(x), types.Print(y), e, by)
				}
				for i, z := range by {
					if !equal(in(s.Apply(meta(i+1)), by), z) {
						t.Fatalf("%s, %s: more is known of %d than %v", types.Print(x), types.Print(y), i+1, by)
					}
				}
			}
		}
	}
}

// P9.4: the row in which types are made one changes nothing but which of them is refused.
func TestAnyRow(t *testing.T) {
	r := chance(33)
	ones := 0
	for range 20000 {
		var l []asked
		for range 2 + r.next(4) {
			l = append(l, asked{meta(1 + r.next(5)), r.flat(1+r.next(4), 5)})
		}
		forth, back, refused, other := unify.New(), unify.New(), false, false
		for i := range l {
			x, y := l[i], l[len(l)-1-i]
			refused = refused || forth.Unify(x.x, x.y) != api.OK
			other = other || back.Unify(y.y, y.x) != api.OK
		}
		if refused != other {
			t.Fatal(l, refused, other)
		}
		if refused {
			continue
		}
		ones++
		// Both are the same, but for which numbers stand for others: of those each is known to be the lowest one.
		for n := 1; n <= 5; n++ {
			if x, y := forth.Apply(meta(n)), back.Apply(meta(n)); !equal(back.Apply(x), y) || !equal(forth.Apply(y), x) {
				t.Fatal(l, n, types.Print(x), types.Print(y))
			}
		}
	}
	if ones < 2000 {
		t.Error("made one:", ones)
	}
}

// flat is some, without TAlls.
func (r *chance) flat(size, metas int) api.Type {
	if size > 1 {
		left := 1 + r.next(size-1)
		return app(r.flat(left, metas), r.flat(size-left, metas))
	}
	if r.next(4) == 0 {
		return integer
	}
	return meta(1 + r.next(metas))
}
