package classes_test

import (
	"slices"
	"strconv"
	"testing"

	"fugue/api"
	"fugue/classes"
)

// words is a program, gone through by the chapter's words.
type words struct{ api.Program }

// class is the place of the class that a name means.
func (w words) class(name string) int {
	return slices.IndexFunc(w.Classes, func(c api.Class) bool { return c.Name == name })
}

func (w words) inst(class, con string) int {
	return slices.IndexFunc(w.Insts, func(x api.Inst) bool { return x.Class == class && x.Con == con })
}

func (w words) method(name string) (string, int, bool) {
	for _, c := range w.Classes {
		for i, m := range c.Methods {
			if m.Name == name {
				return c.Name, i, true
			}
		}
	}
	return "", 0, false
}

// isAbove tells of each two classes, by their places, whether the second one is above the first one: who is named there,
// and then by way of each class in its turn.
func (w words) isAbove() [][]bool {
	n := len(w.Classes)
	above := make([][]bool, n)
	for i := range n {
		above[i] = make([]bool, n)
		for _, name := range w.Classes[i].Supers {
			if at := w.class(name); at >= 0 {
				above[i][at] = true
			}
		}
	}
	for by := range n {
		for i := range n {
			for j := range n {
				above[i][j] = above[i][j] || above[i][by] && above[by][j]
			}
		}
	}
	return above
}

// refusals is all of a program's, in the row in which the chapter names them.
func (w words) refusals() []api.At {
	var l []api.At
	for i, above := range w.isAbove() {
		if above[i] && w.class(w.Classes[i].Name) == i {
			l = append(l, api.At{Errno: api.ErrSuper, At: w.Classes[i].At})
		}
	}
	for i, x := range w.Insts {
		if w.inst(x.Class, x.Con) < i {
			l = append(l, api.At{Errno: api.ErrOverlap, At: x.At})
		}
	}
	for _, x := range w.Insts {
		at := w.class(x.Class)
		if at >= 0 && slices.ContainsFunc(w.Classes[at].Supers, func(super string) bool { return w.inst(super, x.Con) < 0 }) {
			l = append(l, api.At{Errno: api.ErrSuper, At: x.At})
		}
	}
	return l
}

func (w words) refusal() api.At {
	l := w.refusals()
	slices.SortStableFunc(l, func(a, b api.At) int { return a.At - b.At })
	if len(l) == 0 {
		return api.At{}
	}
	return l[0]
}

// above is, where no class is above itself, what P11.3 says.
func (w words) above(name string) []string {
	at := w.class(name)
	if at < 0 {
		return nil
	}
	l := []string{name}
	for _, super := range w.Classes[at].Supers {
		for _, x := range w.above(super) {
			if !slices.Contains(l, x) {
				l = append(l, x)
			}
		}
	}
	return l
}

// path is, where no class is above itself, the least one of the shortest of all ways.
func (w words) path(from, to string) ([]int, bool) {
	all := w.paths(from, to)
	if len(all) == 0 {
		return nil, false
	}
	return slices.MinFunc(all, func(a, b []int) int {
		if len(a) != len(b) {
			return len(a) - len(b)
		}
		return slices.Compare(a, b)
	}), true
}

// paths is all ways up, as P11.4 tells them.
func (w words) paths(from, to string) [][]int {
	at := w.class(from)
	if at < 0 {
		return nil
	}
	if from == to {
		return [][]int{nil}
	}
	var all [][]int
	for i, super := range w.Classes[at].Supers {
		for _, l := range w.paths(super, to) {
			all = append(all, append([]int{i}, l...))
		}
	}
	return all
}

// follows holds a program's Env against the words, or its refusal, and tells that one.
func follows(t *testing.T, p api.Program, names, cons, methods []string) api.At {
	t.Helper()
	w := words{p}
	e, at := classes.New(p)
	if want := w.refusal(); at != want || (e == nil) != (want.Errno != api.OK) {
		t.Fatal(p, at, want)
	}
	if e == nil {
		return at
	}
	for _, name := range names {
		i := w.class(name)
		if c, is := e.Class(name); is != (i >= 0) || is && c.At != p.Classes[i].At || !is && c.At != 0 {
			t.Fatal(p, name, c)
		}
		if l := e.Above(name); !slices.Equal(l, w.above(name)) {
			t.Fatal(p, name, l, w.above(name))
		}
		for _, to := range names {
			got, is := e.Path(name, to)
			if want, has := w.path(name, to); is != has || !slices.Equal(got, want) {
				t.Fatal(p, name, to, got, want)
			}
		}
		for _, con := range cons {
			n, is := e.Inst(name, con)
			if want := w.inst(name, con); is != (want >= 0) || n != max(want, 0) {
				t.Fatal(p, name, con, n, want)
			}
		}
	}
	for _, name := range methods {
		class, place, is := e.Method(name)
		if wantClass, want, has := w.method(name); is != has || class != wantClass || place != want {
			t.Fatal(p, name, class, place)
		}
	}
	return at
}

// upTo is names: a letter, and a number from 0 on.
func upTo(letter string, n int) []string {
	var l []string
	for i := range n {
		l = append(l, letter+strconv.Itoa(i))
	}
	return l
}

// rows is all rows of the numbers below n.
func rows(n int) [][]int {
	if n == 0 {
		return [][]int{nil}
	}
	var all [][]int
	for _, l := range rows(n - 1) {
		for i := range n {
			all = append(all, slices.Insert(slices.Clone(l), i, n-1))
		}
	}
	return all
}

// P11.1, P11.3, P11.4: all that three classes may have above them, and four whose Supers stand in this row or that one.
func TestAllClasses(t *testing.T) {
	counts := map[api.Errno]int{}
	for _, n := range []int{1, 2, 3, 4} {
		names := upTo("A", n)
		places := rows(n)
		for set := range 1 << (n * n) {
			p := api.Program{}
			row := places[set%len(places)]
			for i, name := range names {
				c := class(name, 10+row[i])
				for j, super := range names {
					if set>>(i*n+j)&1 == 1 {
						c.Supers = append(c.Supers, super)
					}
				}
				if set*7/3%2 == 1 {
					slices.Reverse(c.Supers)
				}
				p.Classes = append(p.Classes, c)
			}
			counts[follows(t, p, names, nil, nil).Errno]++
		}
	}
	// There are 1, 3, 25, 543 ways in which so many things lead to one another without a loop.
	if counts[api.OK] != 572 {
		t.Error(counts)
	}
}

// P11.1, P11.5: all rows of up to four instances of two classes, one above the other, or none, and of two constructors.
func TestAllInsts(t *testing.T) {
	counts := map[api.Errno]int{}
	for n := range 5 {
		for set := range 1 << (2 * n) {
			for _, row := range rows(n) {
				for _, p := range []api.Program{{Classes: []api.Class{class("A0", 1, "A1"), class("A1", 2)}}, {Classes: []api.Class{class("A1", 1)}}, {Classes: []api.Class{class("A0", 11, "A1", "A1")}}} {
					for i, place := range row {
						p.Insts = append(p.Insts, inst(upTo("A", 2)[set>>(2*i)&1], upTo("T", 2)[set>>(2*i+1)&1], 10+place))
					}
					counts[follows(t, p, upTo("A", 2), upTo("T", 3), nil).Errno]++
				}
			}
		}
	}
	if len(counts) != 3 || counts[api.OK] < 100 || counts[api.ErrSuper] < 100 || counts[api.ErrOverlap] < 100 {
		t.Error(counts)
	}
}
