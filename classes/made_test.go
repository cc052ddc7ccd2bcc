package classes_test

import (
	"reflect"
	"slices"
	"testing"

	"fugue/api"
	"fugue/classes"
)

// chance is numbers that are the same ones each time.
type chance uint64

func (c *chance) below(n int) int {
	*c = *c*6364136223846793005 + 1442695040888963407
	return int(*c >> 33 % chance(n))
}

func shuffle[T any](c *chance, l []T) {
	for i := range l {
		j := i + c.below(len(l)-i)
		l[i], l[j] = l[j], l[i]
	}
}

// maker makes programs by chance.
type maker struct {
	chance
	twice int // in how many of a hundred a class or an instance has the name of another one
	loops int // in how many of a hundred a class stands above any one, not above those with greater numbers alone
	lacks int // in how many of a hundred an instance is left out
}

// class is the class of a number, of so many.
func (m *maker) class(i, n int, names []string) api.Class {
	c := api.Class{Name: names[i], At: m.below(3 * n), Var: "a"}
	if m.below(100) < m.twice {
		c.Name = names[m.below(n)]
	}
	for range m.below(4) {
		switch {
		case m.below(100) < m.loops:
			c.Supers = append(c.Supers, names[m.below(n)])
		case m.below(10) == 0:
			c.Supers = append(c.Supers, "X")
		case i+1 < n:
			c.Supers = append(c.Supers, names[i+1+m.below(n-i-1)])
		}
	}
	for range m.below(3) {
		c.Methods = append(c.Methods, api.Sig{Name: upTo("m", 2*n)[m.below(2*n)]})
	}
	return c
}

// insts is instances of constructors: of a class, and, but for those left out, of all that is above it.
func (m *maker) insts(w words, names, cons []string) []api.Inst {
	has := map[[2]string]bool{}
	var l []api.Inst
	put := func(class, con string) {
		if m.below(100) < m.lacks || has[[2]string{class, con}] && m.below(100) >= m.twice {
			return
		}
		has[[2]string{class, con}] = true
		l = append(l, inst(class, con, m.below(60)))
	}
	above := w.isAbove()
	for range m.below(4) {
		name, con := names[m.below(len(names))], cons[m.below(len(cons))]
		put(name, con)
		at := w.class(name)
		if at < 0 {
			continue
		}
		for i, is := range above[at] {
			if is && i != at {
				put(w.Classes[i].Name, con)
			}
		}
		put("X", con)
	}
	return l
}

func (m *maker) program() (api.Program, []string, []string) {
	n := 1 + m.below(8)
	names, cons := upTo("A", n), upTo("T", 1+m.below(3))
	p := api.Program{}
	for i := range n {
		p.Classes = append(p.Classes, m.class(i, n, names))
	}
	shuffle(&m.chance, p.Classes)
	p.Insts = m.insts(words{p}, names, cons)
	shuffle(&m.chance, p.Insts)
	return p, append(names, "X", ""), append(cons, "U")
}

func makers(seed int) *maker {
	rare := func(n, of int) int { return []int{0, n}[seed/of%2] }
	return &maker{chance: chance(seed*7919 + 1), twice: rare(20, 1), loops: rare(15, 2), lacks: rare(6, 4)}
}

// P11.1 to P11.5: programs made by chance.
func TestMade(t *testing.T) {
	counts := map[api.Errno]int{}
	insts := 0
	for seed := range 6000 {
		p, names, cons := makers(seed).program()
		at := follows(t, p, names, cons, upTo("m", 16))
		counts[at.Errno]++
		if at.Errno == api.OK && len(p.Insts) > 3 {
			insts++
		}
	}
	if len(counts) != 3 || counts[api.OK] < 1500 || counts[api.ErrSuper] < 1000 || counts[api.ErrOverlap] < 300 || insts < 300 {
		t.Error(counts, insts)
	}
}

// doubles tells whether two classes have one name.
func doubles(p api.Program) bool {
	seen := map[string]bool{}
	for _, c := range p.Classes {
		if seen[c.Name] {
			return true
		}
		seen[c.Name] = true
	}
	return false
}

// sameAnswers holds what two Envs tell against one another: P11.6 of the rows of classes and instances.
func sameAnswers(t *testing.T, e, f *classes.Env, names, cons []string) {
	t.Helper()
	if e.Len() != f.Len() {
		t.Fatal(e.Len(), f.Len())
	}
	for _, name := range names {
		c, is := e.Class(name)
		d, has := f.Class(name)
		if is != has || !reflect.DeepEqual(c, d) || !slices.Equal(e.Above(name), f.Above(name)) {
			t.Fatal(name, c, d)
		}
		for _, to := range names {
			l, is := e.Path(name, to)
			if m, has := f.Path(name, to); is != has || !slices.Equal(l, m) {
				t.Fatal(name, to, l, m)
			}
		}
		for _, con := range cons {
			i, is := e.Inst(name, con)
			j, has := f.Inst(name, con)
			if is != has || is && !reflect.DeepEqual(e.At(i), f.At(j)) {
				t.Fatal(name, con, i, j)
			}
		}
	}
}

// P11.6: what stands above is what there is a way to; other rows of classes and instances change nothing of it.
func TestRows(t *testing.T) {
	taken, refused := 0, 0
	for seed := range 6000 {
		m := makers(seed)
		p, names, cons := m.program()
		if doubles(p) {
			continue
		}
		e, _ := classes.New(p)
		q := api.Program{Classes: slices.Clone(p.Classes), Insts: slices.Clone(p.Insts)}
		shuffle(&m.chance, q.Classes)
		shuffle(&m.chance, q.Insts)
		f, _ := classes.New(q)
		if (e == nil) != (f == nil) {
			t.Fatal(p, q)
		}
		if e == nil {
			refused++
			continue
		}
		taken++
		sameAnswers(t, e, f, names, cons)
		for _, name := range names {
			above := e.Above(name)
			for _, to := range names {
				if l, is := e.Path(name, to); is != slices.Contains(above, to) {
					t.Fatal(p, name, to, l)
				}
			}
		}
	}
	if taken < 1000 || refused < 1000 {
		t.Error(taken, refused)
	}
}

// P11.6: where Supers stand in another row, the same is above, and ways are as long.
func TestSupersRows(t *testing.T) {
	taken := 0
	for seed := range 2000 {
		m := makers(seed)
		p, names, _ := m.program()
		e, at := classes.New(p)
		for i := range p.Classes {
			c := slices.Clone(p.Classes[i].Supers)
			shuffle(&m.chance, c)
			p.Classes[i].Supers = c
		}
		f, at2 := classes.New(p)
		if at != at2 {
			t.Fatal(p, at, at2)
		}
		if e == nil {
			continue
		}
		taken++
		for _, name := range names {
			l, k := e.Above(name), f.Above(name)
			slices.Sort(l)
			slices.Sort(k)
			if !slices.Equal(l, k) {
				t.Fatal(p, name, l, k)
			}
			for _, to := range names {
				a, _ := e.Path(name, to)
				if b, _ := f.Path(name, to); len(a) != len(b) {
					t.Fatal(p, name, to, a, b)
				}
			}
		}
	}
	if taken < 500 {
		t.Error(taken)
	}
}
