package classes

import (
	"slices"

	"fugue/api"
)

// refusal is, of the refusals that it was told, the one at the least place; of those at one place the first.
type refusal struct{ api.At }

func (r *refusal) tell(e api.Errno, at int) {
	if r.Errno == api.OK || at < r.At.At {
		r.At = api.At{Errno: e, At: at}
	}
}

// loops tells each class that is above itself.
func (e *Env) loops(names []string, tell func(e api.Errno, at int)) {
	for _, group := range e.groups(names) {
		if len(group) == 1 && !slices.Contains(e.supers(group[0]), group[0]) {
			continue
		}
		for _, name := range group {
			tell(api.ErrSuper, e.classes[name].At)
		}
	}
}

// overlaps keeps where instances stand, and tells each one ahead of which there is one of its head.
func (e *Env) overlaps(tell func(e api.Errno, at int)) {
	for i, x := range e.insts {
		of := head{x.Class, x.Con}
		if _, has := e.places[of]; has {
			tell(api.ErrOverlap, x.At)
			continue
		}
		e.places[of] = i
	}
}

// lacks tells each instance without one of a class right above.
func (e *Env) lacks(tell func(e api.Errno, at int)) {
	for _, x := range e.insts {
		lacks := func(class string) bool {
			_, has := e.Inst(class, x.Con)
			return !has
		}
		if slices.ContainsFunc(e.supers(x.Class), lacks) {
			tell(api.ErrSuper, x.At)
		}
	}
}

// groups is the classes, each with those that are both above it and below it. First all ways up are gone, then all ways
// down, from the class that was left last to the one that was left first: so those to which a class leads down, and that
// are not of its group, are in one already.
func (e *Env) groups(names []string) [][]string {
	var left []string
	up := walk{next: e.supers, come: func(string) {}, leave: func(name string) { left = append(left, name) }, seen: map[string]bool{}}
	for _, name := range names {
		up.from(name)
	}
	var groups [][]string
	var group []string
	below := e.below(names)
	down := walk{
		next:  func(name string) []string { return below[name] },
		come:  func(name string) { group = append(group, name) },
		leave: func(string) {},
		seen:  map[string]bool{},
	}
	for _, name := range slices.Backward(left) {
		if down.from(name); len(group) > 0 {
			groups, group = append(groups, group), nil
		}
	}
	return groups
}

// below is, by name, the classes that have it among their Supers.
func (e *Env) below(names []string) map[string][]string {
	l := map[string][]string{}
	for _, name := range names {
		for _, super := range e.supers(name) {
			l[super] = append(l[super], name)
		}
	}
	return l
}
