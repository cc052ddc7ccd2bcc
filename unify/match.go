package unify

import (
	"fugue/api"
	"fugue/types"
)

// Match is types in the place of a type's variables by which it is another one.
func Match(names []string, pattern, t api.Type) ([]api.Type, bool) {
	m := match{places: map[string]int{}, met: make([]bool, len(names)), by: make([]api.Type, len(names))}
	for i, name := range names {
		m.places[name] = i
	}
	if !m.is(pattern, t) {
		return nil, false
	}
	return m.by, true
}

// match is what stands in the place of names, as far as a pattern was gone through.
type match struct {
	places map[string]int // of each name: its place among the names
	met    []bool         // of each name: whether it was come by
	by     []api.Type
}

// is tells whether a pattern is a type by what stood in the place of names and what stands there now.
func (m *match) is(pattern, t api.Type) bool {
	if pattern.Form == api.TVar {
		if i, ok := m.places[pattern.Name]; ok {
			return m.put(i, t)
		}
	}
	if pattern.Form != t.Form || pattern.N != t.N || pattern.Name != t.Name || len(pattern.Args) != len(t.Args) {
		return false
	}
	for i := range pattern.Args {
		if !m.is(pattern.Args[i], t.Args[i]) {
			return false
		}
	}
	return true
}

// put tells whether a type may stand in the place of a name.
func (m *match) put(i int, t api.Type) bool {
	if m.met[i] {
		return types.Same(m.by[i], t)
	}
	m.met[i], m.by[i] = true, types.App(t)
	return true
}
