package scope

import (
	"slices"

	"fugue/api"
)

// rank is the row of errors at one place.
func rank(e api.Errno) int {
	return slices.Index([]api.Errno{api.ErrOwn, api.ErrTwice, api.ErrNone, api.ErrArity}, e)
}

// checker goes through a program, and tells wrong whatever is wrong at a place.
type checker struct {
	there
	wrong func(at int, e api.Errno)
}

// wrongIf tells wrong, if something is so.
func (c checker) wrongIf(is bool, at int, e api.Errno) {
	if is {
		c.wrong(at, e)
	}
}

func (c checker) datas(l []api.Data) {
	againData, againCon := repeats(), repeats()
	for _, d := range l {
		c.wrongIf(slices.Contains(ownTypes(), d.Name), d.At, api.ErrOwn)
		c.wrongIf(againData(d.Name), d.At, api.ErrTwice)
		c.wrongIf(twice(d.Vars), d.At, api.ErrTwice)
		for _, x := range d.Cons {
			c.wrongIf(slices.Contains(ownCons(), x.Name), x.At, api.ErrOwn)
			c.wrongIf(againCon(x.Name), x.At, api.ErrTwice)
			c.wrongIf(c.lacksType(x.Fields...) || strange(d.Vars, x.Fields...), x.At, api.ErrNone)
		}
	}
}

// strange tells whether types have a variable that is none of these.
func strange(vars []string, l ...api.Type) bool {
	is := false
	eachType(func(t api.Type) { is = is || t.Form == api.TVar && !slices.Contains(vars, t.Name) }, l...)
	return is
}

func (c checker) classes(l []api.Class) {
	again := repeats()
	for _, x := range l {
		c.wrongIf(again(x.Name), x.At, api.ErrTwice)
		c.wrongIf(slices.ContainsFunc(x.Supers, c.lacksClass), x.At, api.ErrNone)
		for _, m := range x.Methods {
			c.value(m.Name, m.At)
			c.scheme(m.At, m.Type)
		}
	}
}

func (c checker) insts(l []api.Inst) {
	for _, x := range l {
		c.wrongIf(twice(x.Vars), x.At, api.ErrTwice)
		c.wrongIf(c.lacksClass(x.Class) || !c.types[x.Con], x.At, api.ErrNone)
		for _, p := range x.Preds {
			c.wrongIf(c.lacksClass(p.Class) || strange(x.Vars, p.Type), x.At, api.ErrNone)
		}
		c.row(x.Binds)
		methods, has := c.methods[x.Class]
		for _, b := range x.Binds {
			c.wrongIf(has && !methods[b.Name], b.At, api.ErrNone)
			c.body(b.Body)
		}
	}
}

func (c checker) values(l []api.Bind) {
	for _, b := range l {
		c.value(b.Name, b.At)
		c.signature(b)
		c.body(b.Body)
	}
}

// value checks the name of a program's bind, or of a method.
func (c checker) value(name string, at int) {
	c.wrongIf(slices.Contains(Prims(), name), at, api.ErrOwn)
	c.wrongIf(c.given[name] < at, at, api.ErrTwice)
}

// row checks the binds of a let, or of an instance, but for their Bodies.
func (c checker) row(l []api.Bind) {
	again := repeats()
	for _, b := range l {
		c.wrongIf(again(b.Name), b.At, api.ErrTwice)
		c.signature(b)
	}
}

func (c checker) signature(b api.Bind) {
	if b.Has {
		c.scheme(b.At, b.Sig)
	}
}

func (c checker) scheme(at int, s api.Scheme) {
	c.wrongIf(c.lacksType(s.Type), at, api.ErrNone)
	for _, p := range s.Preds {
		c.wrongIf(c.lacksClass(p.Class) || c.lacksType(p.Type), at, api.ErrNone)
	}
}

// body checks an expression to which nothing is given but what is everywhere.
func (c checker) body(e api.Exp) {
	eachFree(e, func(v api.Exp) {
		_, has := c.given[v.Name]
		c.wrongIf(!has && !slices.Contains(Prims(), v.Name), v.At, api.ErrNone)
	})
	each(e, c.exp)
}

// exp checks an expression, but for names of values, and for the expressions within it.
func (c checker) exp(e api.Exp) {
	switch e.Form {
	case api.ECon:
		_, has := c.cons[e.Name]
		c.wrongIf(!has, e.At, api.ErrNone)
	case api.ELam:
		c.pats(e.Pats...)
	case api.ELet:
		c.row(e.Binds)
	case api.ECase:
		for _, p := range e.Pats {
			c.pats(p)
		}
	case api.EAnn:
		c.scheme(e.At, e.Sig)
	}
}

// pats checks the patterns of a lambda, or a whole one.
func (c checker) pats(l ...api.Pat) {
	again := repeats()
	for _, whole := range l {
		eachPat(whole, func(p api.Pat) {
			switch p.Form {
			case api.PVar:
				c.wrongIf(again(p.Name), p.At, api.ErrTwice)
			case api.PCon:
				many, has := c.cons[p.Name]
				c.wrongIf(!has, p.At, api.ErrNone)
				c.wrongIf(has && many != len(p.Kids), p.At, api.ErrArity)
			}
		})
	}
}
