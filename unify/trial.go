package unify

import (
	"slices"

	"fugue/api"
	"fugue/types"
)

// A trial is a Unify under way: it is undone, if it is refused.
type trial struct {
	*Subst
	back []func()      // what takes back each thing that was learnt, in their row
	alls [][2]api.Type // the TAlls that were the same when they were met
}

// unify makes two types one, or tells the first thing, from the left, for which they can't be.
func (t *trial) unify(a, b api.Type) api.Errno {
	a, b = t.look(a), t.look(b)
	switch {
	case a.Form == api.TMeta && b.Form == api.TMeta:
		t.join(a.N, b.N)
		return api.OK
	case a.Form == api.TMeta:
		return t.learn(a.N, b)
	case b.Form == api.TMeta:
		return t.learn(b.N, a)
	case a.Form == api.TAll && b.Form == api.TAll:
		t.alls = append(t.alls, [2]api.Type{a, b})
		return t.same(a, b)
	case a.Form != b.Form || a.Name != b.Name || len(a.Args) != len(b.Args):
		return api.ErrUnify
	}
	for i := range a.Args {
		if e := t.unify(a.Args[i], b.Args[i]); e != api.OK {
			return e
		}
	}
	return api.OK
}

// same is OK, if two types with all that is known are the same.
func (t *trial) same(a, b api.Type) api.Errno {
	if !types.Same(t.Apply(a), t.Apply(b)) {
		return api.ErrUnify
	}
	return api.OK
}

// still is OK, if the TAlls that were the same are so with all that has been learnt since: a number in the bodies of
// two may have become a variable that one of them gives, and the other one does not.
func (t *trial) still() api.Errno {
	for _, pair := range t.alls {
		if e := t.same(pair[0], pair[1]); e != api.OK {
			return e
		}
	}
	return api.OK
}

// join makes it known that two numbers, which look has told, are one.
func (t *trial) join(a, b int) {
	if a == b {
		return
	}
	p, q := t.part(a), t.part(b)
	if p.weight() < q.weight() {
		p, q = q, p
	}
	least, users := p.least, len(p.users)
	q.up = p
	p.many += q.many
	p.least = min(p.least, q.least)
	p.users = append(p.users, q.users...)
	t.back = append(t.back, func() {
		q.up = nil
		p.many -= q.many
		p.least = least
		p.users = p.users[:users]
	})
}

// learn makes it known that the number n, which look has told, is a type that is no number.
func (t *trial) learn(n int, is api.Type) api.Errno {
	if t.within(n, is, map[int]bool{}) {
		return api.ErrLoop
	}
	size := t.size(is)
	if size > api.MaxType {
		return api.ErrTooGreat
	}
	p := t.part(n)
	p.is, p.t, p.size = true, types.App(is), size
	for m := range numbers(is) {
		q := t.part(m)
		q.users = append(q.users, p)
	}
	greatest := grow(p.users, size-1)
	t.back = append(t.back, func() { t.forget(p) })
	if greatest > api.MaxType {
		return api.ErrTooGreat
	}
	return api.OK
}

// forget takes back what was learnt last of all: which type a part is.
func (t *trial) forget(p *part) {
	grow(p.users, 1-p.size)
	for m := range numbers(p.t) {
		q := t.find(m)
		q.users = q.users[:len(q.users)-1]
	}
	p.is, p.t, p.size = false, api.Type{}, 1
}

// part is the part in which a number is: one of its own, if nothing was learnt of it.
func (t *trial) part(n int) *part {
	p := t.find(n)
	if p == nil {
		p = &part{many: 1, least: n, size: 1}
		t.parts[n] = p
		t.back = append(t.back, func() { delete(t.parts, n) })
	}
	return p
}

// undo takes back all that was learnt.
func (t *trial) undo() {
	for _, f := range slices.Backward(t.back) {
		f()
	}
}
