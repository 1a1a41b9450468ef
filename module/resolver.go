package module

import (
	"skerry/api"
	"skerry/syntax"
)

// resolver resolves the definitions of a source.
type resolver struct {
	namer
	table *table
	rules map[int]func(*resolver, api.Def) []api.Def // by its kind, what makes of a definition the resolved ones
	made  map[string]bool                            // the generic functions of slots that are defined already
}

func newResolver(t *table, miss func(name string, e api.Errno)) *resolver {
	return &resolver{
		namer: namer{t.byName, miss},
		table: t,
		rules: map[int]func(*resolver, api.Def) []api.Def{
			api.DfClass:   (*resolver).classDef,
			api.DfGeneric: (*resolver).genericDef,
			api.DfMethod:  (*resolver).methodDef,
			api.DfDomain:  (*resolver).domainDef,
			api.DfConst:   (*resolver).constDef,
		},
		made: map[string]bool{},
	}
}

// resolve returns the table of a source, its library and its main expression, or refuses the source.
func resolve(s api.Source, faces []api.Face) (*table, api.Library, []api.Expr) {
	t := gather(s, faces)
	r := newResolver(t, leave)
	lib := api.Library{Name: s.Name, Defs: r.defs(s.Defs)}
	for _, u := range s.Uses {
		lib.Uses = append(lib.Uses, u.Lib)
	}
	main := r.exprs(s.Main)
	t.checkExports()
	return t, lib, main
}

func (r *resolver) defs(l []api.Def) []api.Def {
	var resolved []api.Def
	for _, d := range l {
		resolved = append(resolved, r.rules[d.Kind](r, d)...)
	}
	return resolved
}

// classDef resolves a class: the generic functions of its slots, itself, and its accessors.
func (r *resolver) classDef(d api.Def) []api.Def {
	c := d.Class
	l := r.slotGenerics(c.Slots)
	c.Name = r.class(c.Name)
	c.Supers = nil
	for _, s := range d.Class.Supers {
		c.Supers = append(c.Supers, r.class(s))
	}
	c.Slots = r.slots(c.Slots)
	l = append(l, api.Def{Kind: api.DfClass, Class: c})
	return append(l, r.defs(syntax.Accessors(d.Class))...)
}

// slotGenerics returns the definitions of the generic functions that slots define, and no slot ahead of them.
func (r *resolver) slotGenerics(l []api.Slot) []api.Def {
	var defs []api.Def
	for _, s := range l {
		for _, x := range r.table.accessors(s) {
			if r.table.isNew(x) && !r.made[x.Full] {
				r.made[x.Full] = true
				defs = append(defs, api.Def{Kind: api.DfGeneric, Generic: api.GenericDef{Name: x.Full, Arity: x.Arity}})
			}
		}
	}
	return defs
}

// slots resolves slots. Those that have no value are left out, but their names have to be right, too.
func (r *resolver) slots(l []api.Slot) []api.Slot {
	var named []api.Slot
	for _, s := range l {
		setter := syntax.Setter(s.Name)
		s.Name = r.accessor(s.Name, 1)
		r.accessor(setter, 2)
		s.Type = r.typ(s.Type)
		s.Init = r.exprs(s.Init)
		if s.Alloc != api.SlVirt {
			named = append(named, s)
		}
	}
	return named
}

func (r *resolver) genericDef(d api.Def) []api.Def {
	g := d.Generic
	g.Name = r.generic(g.Name)
	return []api.Def{{Kind: api.DfGeneric, Generic: g}}
}

func (r *resolver) methodDef(d api.Def) []api.Def {
	m := d.Method
	m.Generic = r.generic(m.Generic)
	m.Params = r.params(m.Params)
	m.Result = r.typ(m.Result)
	m.Body = r.inner(m.Body, scope(outside).within(variables(m.Params)))
	return []api.Def{{Kind: api.DfMethod, Method: m}}
}

func (r *resolver) domainDef(d api.Def) []api.Def {
	domain := d.Domain
	domain.Generic = r.generic(domain.Generic)
	domain.Types = r.types(domain.Types)
	return []api.Def{{Kind: api.DfDomain, Domain: domain}}
}

func (r *resolver) constDef(d api.Def) []api.Def {
	return []api.Def{{Kind: api.DfConst, Name: r.any(d.Name), Body: r.expr(d.Body)}}
}
