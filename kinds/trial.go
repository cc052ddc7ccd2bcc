package kinds

import "fugue/api"

// A trial is an Equal under way: it is undone, if it is refused.
type trial struct {
	*Solver
	before []fact
}

// A fact is what was known of a variable ahead of a change: nothing, if it was not known.
type fact struct {
	n     int
	term  Term
	known bool
}

// unify makes two terms one, or tells the first thing, from the left, for which they can't be.
func (t *trial) unify(a, b Term) api.Errno {
	a, b = t.root(a), t.root(b)
	if a.Form == KVar && b.Form == KVar && a.N == b.N {
		return api.OK
	}
	x, y := t.look(a), t.look(b)
	switch {
	// Loops are looked for here, not in the end: one may be met ahead of kinds that do not fit.
	case x.Form == KVar && t.within(x.N, y, map[int]bool{}):
		return api.ErrLoop
	case y.Form == KVar && t.within(y.N, x, map[int]bool{}):
		return api.ErrLoop
	case x.Form == KVar || y.Form == KVar:
	case x.Form != y.Form:
		return api.ErrKind
	default:
		for i := range x.Args {
			if e := t.unify(x.Args[i], y.Args[i]); e != api.OK {
				return e
			}
		}
	}
	t.join(a, b)
	return api.OK
}

// join makes it known that two roots are one: what they are has been made one, or is known of one alone.
func (t *trial) join(a, b Term) {
	if a.Form != KVar {
		a, b = b, a
	}
	switch {
	case b.Form == KVar:
		t.joinVars(a.N, b.N)
	case a.Form == KVar && t.look(a).Form == KVar:
		t.learn(a.N, t.flat(b))
	}
}

// joinVars makes it known that two variables, which are roots, are one.
func (t *trial) joinVars(a, b int) {
	if uint(a) > uint(b) { // inner variables are the greatest so
		a, b = b, a
	}
	if x := t.look(variable(a)); x.Form == KVar {
		if y := t.look(variable(b)); y.Form != KVar {
			t.learn(a, y)
		}
	}
	t.learn(b, variable(a))
}

// flat is a term in memory of its own, whose Args are no arrows: inner variables are them.
func (t *trial) flat(x Term) Term {
	switch x.Form {
	case KVar:
		return variable(x.N)
	case KStar:
		return Term{Form: KStar}
	}
	return arrow(t.named(x.Args[0]), t.named(x.Args[1]))
}

// named is a term that is no arrow: an inner variable, if it was one.
func (t *trial) named(x Term) Term {
	x = t.flat(x)
	if x.Form != KArrow {
		return x
	}
	inner := variable(-1 - len(t.known)) // new, as each variable that is learnt makes them more
	t.learn(inner.N, x)
	return inner
}

// learn makes it known that a variable is a term.
func (t *trial) learn(n int, x Term) {
	old, ok := t.known[n]
	t.before = append(t.before, fact{n, old, ok})
	t.known[n] = x
}

// undo takes back all that was learnt.
func (t *trial) undo() {
	for i := len(t.before) - 1; i >= 0; i-- {
		f := t.before[i]
		if f.known {
			t.known[f.n] = f.term
		} else {
			delete(t.known, f.n)
		}
	}
}
