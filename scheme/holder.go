package scheme

import (
	"slices"

	"fugue/api"
	"fugue/classes"
	"fugue/entail"
	"fugue/types"
)

// holder tells whether predicates hold by some that are given. By's evidence may be far longer than what is asked for it
// (an instance that asks for two things of one type doubles it with each type within), and nobody asks for it here: so
// it goes on by itself from one type to those within, and finds each predicate of each type once.
type holder struct {
	env     *classes.Env
	numbers map[node]int
	nodes   []node // by their numbers
	known   map[want]bool
}

// node is what a type is; of an application: the numbers of its two. Types that are the same have one number.
type node struct {
	form, n     int
	name        string
	applied     bool
	left, right int
}

// want is a predicate of the type of a number.
type want struct {
	class  string
	number int
}

func newHolder(e *classes.Env, given []api.Pred) *holder {
	h := &holder{env: e, numbers: map[node]int{}, known: map[want]bool{}}
	for _, p := range given {
		n := h.number(p.Type, nil)
		for _, class := range e.Above(p.Class) {
			h.known[want{class, n}] = true
		}
	}
	return h
}

// number is a type's, where variables stand for types of numbers.
func (h *holder) number(t api.Type, vars map[string]int) int {
	if n, has := vars[t.Name]; has && t.Form == api.TVar {
		return n
	}
	x := node{form: t.Form, n: t.N, name: t.Name}
	if t.Form == api.TApp && len(t.Args) == 2 {
		x = node{applied: true, left: h.number(t.Args[0], vars), right: h.number(t.Args[1], vars)}
	}
	n, has := h.numbers[x]
	if !has {
		n = len(h.nodes)
		h.numbers[x] = n
		h.nodes = append(h.nodes, x)
	}
	return n
}

func (h *holder) holds(w want) bool {
	is, has := h.known[w]
	if !has {
		is = h.follows(w)
		h.known[w] = is
	}
	return is
}

// follows tells whether a predicate holds by an instance. Where the constructor is given nothing but what is not known,
// Head tells what the instance asks for, each of a number that is the place of what is given there.
func (h *holder) follows(w want) bool {
	con, args := h.spine(w.number)
	if con.form != api.TCon {
		return false
	}
	t := types.Con(con.name)
	var unknown []api.Type
	for i := range args {
		unknown = append(unknown, types.Meta(i))
	}
	asked, errno := entail.Head(h.env, []api.Pred{{Class: w.class, Type: types.App(t, unknown...)}})
	if errno != api.OK {
		return false
	}
	fails := func(p api.Pred) bool { return !h.holds(want{p.Class, args[p.Type.N]}) }
	return !slices.ContainsFunc(asked, fails)
}

// spine is what is first in a type, and the numbers of what that is given.
func (h *holder) spine(n int) (node, []int) {
	var args []int
	x := h.nodes[n]
	for x.applied {
		args = append(args, x.right)
		x = h.nodes[x.left]
	}
	slices.Reverse(args)
	return x, args
}
