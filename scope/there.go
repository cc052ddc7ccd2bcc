package scope

import "fugue/api"

// there is what a program, and the prelude, have by name.
type there struct {
	types   map[string]bool
	cons    map[string]int             // of each constructor: how many things it has
	methods map[string]map[string]bool // of each class: its methods
	given   map[string]int             // of each bind and method: the least place at which it stands
}

func ownTypes() []string { return []string{"Int", "Bool"} }

func ownCons() []string { return []string{"False", "True"} }

func thereIn(p api.Program) there {
	// Types of functions are put together with a constructor that no source can name.
	t := there{types: map[string]bool{"->": true}, cons: map[string]int{}, methods: map[string]map[string]bool{}, given: map[string]int{}}
	for _, name := range ownTypes() {
		t.types[name] = true
	}
	for _, name := range ownCons() {
		t.cons[name] = 0
	}
	for _, d := range p.Datas {
		t.types[d.Name] = true
		for _, x := range d.Cons {
			t.hasCon(x)
		}
	}
	for _, c := range p.Classes {
		t.hasClass(c)
	}
	for _, b := range p.Binds {
		t.hasGiven(b.Name, b.At)
	}
	return t
}

// hasCon notes a constructor, if it is the first one of its name.
func (t there) hasCon(x api.Con) {
	if _, has := t.cons[x.Name]; !has {
		t.cons[x.Name] = len(x.Fields)
	}
}

// hasClass notes a class, if it is the first one of its name, and its methods' names in any case: those are given.
func (t there) hasClass(c api.Class) {
	methods := map[string]bool{}
	for _, m := range c.Methods {
		methods[m.Name] = true
		t.hasGiven(m.Name, m.At)
	}
	if _, has := t.methods[c.Name]; !has {
		t.methods[c.Name] = methods
	}
}

func (t there) hasGiven(name string, at int) {
	if least, has := t.given[name]; !has || at < least {
		t.given[name] = at
	}
}

// lacksType tells whether types have a constructor that there is not.
func (t there) lacksType(l ...api.Type) bool {
	lacks := false
	eachType(func(x api.Type) { lacks = lacks || x.Form == api.TCon && !t.types[x.Name] }, l...)
	return lacks
}

func (t there) lacksClass(name string) bool {
	_, has := t.methods[name]
	return !has
}
