package classes

import "slices"

// queue is things that are taken out in the row in which they were put in.
type queue[T any] struct{ l []T }

func (q *queue[T]) put(x T) { q.l = append(q.l, x) }

func (q *queue[T]) take() (T, bool) {
	if len(q.l) == 0 {
		var none T
		return none, false
	}
	x := q.l[0]
	q.l = q.l[1:]
	return x, true
}

// ways are the shortest ways up from a class. What is come to first goes on first: so of ways as short the one with the
// least places is found.
type ways struct {
	queue[string]
	first string
	last  map[string]step // of each class that was come to: the last step there; of the first one: none
}

// step is one up from a class: to the one at a place among its Supers.
type step struct {
	from  string
	place int
}

func waysFrom(class string) *ways {
	w := &ways{first: class, last: map[string]step{}}
	w.come(class, step{})
	return w
}

// come is told a step to a class.
func (w *ways) come(class string, by step) {
	if _, has := w.last[class]; !has {
		w.last[class] = by
		w.put(class)
	}
}

// to is the places of the way to a class, if it was come to.
func (w *ways) to(class string) ([]int, bool) {
	if _, has := w.last[class]; !has {
		return nil, false
	}
	var l []int
	for class != w.first {
		by := w.last[class]
		l = append(l, by.place)
		class = by.from
	}
	slices.Reverse(l)
	return l, true
}

// steps tells each step up from a class.
func (e *Env) steps(class string, tell func(class string, by step)) {
	for i, super := range e.supers(class) {
		tell(super, step{from: class, place: i})
	}
}

// walk goes to names and all to which they lead, to none twice.
type walk struct {
	next        func(name string) []string
	come, leave func(name string) // a name is told ahead of those to which it leads, and behind them
	seen        map[string]bool
}

// from goes to a name; what is first among those to which it leads is gone through, with all to which that leads, ahead
// of the others. It keeps the path itself, and does not call itself, as a path may be as long as there are classes.
func (w walk) from(name string) {
	type part struct {
		name string
		left []string
	}
	var path []part
	enter := func(name string) {
		if !w.seen[name] {
			w.seen[name] = true
			w.come(name)
			path = append(path, part{name, w.next(name)})
		}
	}
	for enter(name); len(path) > 0; {
		last := &path[len(path)-1]
		if len(last.left) == 0 {
			w.leave(last.name)
			path = path[:len(path)-1]
			continue
		}
		next := last.left[0]
		last.left = last.left[1:]
		enter(next)
	}
}
