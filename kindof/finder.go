package kindof

import (
	"slices"

	"fugue/api"
	"fugue/kinds"
)

// finder finds kinds: what is asked of them is told to its solver.
type finder struct {
	*kinds.Solver
	datas   map[string][]kinds.Term // of each data type that has kinds: its variables'
	classes map[string]kinds.Term   // of each class that has one: its variable's
	made    []kinds.Term            // the variables that were made since the last group was found

	// Of each variable that split was asked for: from what it leads, and to what. The solver would go through all
	// of a kind at each thing that it is given, to see that it is not within itself.
	sides map[int][2]kinds.Term
}

// newFinder knows the prelude, and a program by its kinds.
func newFinder(p api.Program) *finder {
	f := &finder{Solver: kinds.New(), datas: map[string][]kinds.Term{}, classes: map[string]kinds.Term{}, sides: map[int][2]kinds.Term{}}
	for _, d := range slices.Concat(Prelude(), p.Datas) {
		f.datas[d.Name] = f.known(d.Kinds...)
	}
	for _, c := range p.Classes {
		f.classes[c.Name] = f.known(c.Kind)[0]
	}
	return f
}

// unknown is variables of which nothing is known.
func (f *finder) unknown(n int) []kinds.Term {
	l := make([]kinds.Term, n)
	for i := range l {
		l[i] = f.Fresh()
	}
	f.made = append(f.made, l...)
	return l
}

// known is variables that are of kinds.
func (f *finder) known(l ...api.Kind) []kinds.Term {
	vars := f.unknown(len(l))
	for i, k := range l {
		f.be(vars[i], k)
	}
	return vars
}

// be asks that a term is of a kind. (Chapter 3's Of makes one term of a kind, but terms that are handed in there may be
// nested only so deep, and programs have kinds that are nested deeper.)
func (f *finder) be(t kinds.Term, k api.Kind) {
	for _, from := range k.From {
		var first kinds.Term
		first, t = f.split(t)
		f.be(first, from)
	}
	f.same(t, star())
}

// same asks that two terms are one.
func (f *finder) same(a, b kinds.Term) {
	if f.Equal(a, b) != api.OK {
		panic(api.ErrKind)
	}
}

// split asks that a term is an arrow, and is its two sides.
func (f *finder) split(t kinds.Term) (from, to kinds.Term) {
	if t.Form == kinds.KArrow {
		return t.Args[0], t.Args[1]
	}
	if both, has := f.sides[t.N]; has {
		return both[0], both[1]
	}
	l := f.unknown(2)
	f.same(t, arrow(l[0], l[1]))
	f.sides[t.N] = [2]kinds.Term{l[0], l[1]}
	return l[0], l[1]
}

// kind is a type's kind, where variables are of kinds.
func (f *finder) kind(t api.Type, vars map[string]kinds.Term) kinds.Term {
	switch {
	case t.Form == api.TVar:
		return there(vars, t.Name)
	case t.Form == api.TCon:
		return leading(there(f.datas, t.Name))
	case t.Form == api.TApp && len(t.Args) == 2:
		from, to := f.split(f.kind(t.Args[0], vars))
		f.same(from, f.kind(t.Args[1], vars))
		return to
	}
	panic(api.ErrKind)
}

// preds asks that predicates' types are of their classes' kinds, where variables are of kinds.
func (f *finder) preds(l []api.Pred, vars map[string]kinds.Term) {
	for _, p := range l {
		f.same(f.kind(p.Type, vars), there(f.classes, p.Class))
	}
}

// scheme is the kinds of a scheme's Vars, some of which have theirs already.
func (f *finder) scheme(s api.Scheme, vars map[string]kinds.Term) []kinds.Term {
	l := f.unknown(len(s.Vars))
	for i, name := range s.Vars {
		if has, is := vars[name]; is {
			l[i] = has
		}
		vars[name] = l[i]
	}
	f.same(f.kind(s.Type, vars), star())
	f.preds(s.Preds, vars)
	return l
}

// settle makes all that was not asked for the kind of types.
func (f *finder) settle() {
	for _, v := range f.made {
		f.Equal(v, star()) // refused of what is known to be an arrow: that stays one
	}
	f.made = nil
}

// told is the kinds that terms are, each in memory of its own.
func (f *finder) told(l []kinds.Term) []api.Kind { return each(l, f.Kind) }

// holds is OK, if all holds that ask asks for.
func holds(ask func()) (e api.Errno) {
	defer func() {
		if x := recover(); x != nil {
			e = x.(api.Errno) // anything else is no refusal, and is not hidden as one
		}
	}()
	ask()
	return api.OK
}

// there is what is there by a name, which must be.
func there[T any](l map[string]T, name string) T {
	x, has := l[name]
	if !has {
		panic(api.ErrKind)
	}
	return x
}

// named is terms by their names; names behind the last term have none.
func named(names []string, l []kinds.Term) map[string]kinds.Term {
	vars := map[string]kinds.Term{}
	for i, t := range l[:min(len(l), len(names))] {
		vars[names[i]] = t
	}
	return vars
}

func star() kinds.Term { return kinds.Term{Form: kinds.KStar} }

func arrow(from, to kinds.Term) kinds.Term {
	return kinds.Term{Form: kinds.KArrow, Args: []kinds.Term{from, to}}
}

// leading is what leads from terms, in their row, to the kind of types.
func leading(from []kinds.Term) kinds.Term {
	t := star()
	for _, x := range slices.Backward(from) {
		t = arrow(x, t)
	}
	return t
}
