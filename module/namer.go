package module

import (
	"slices"
	"strings"

	"skerry/api"
)

// namer replaces names by the full names of what they denote.
type namer struct {
	byName map[string]api.Export
	miss   func(name string, e api.Errno) // called with a name that denotes nothing, or something of another kind
}

// leave ends the resolving with the first error.
func leave(_ string, e api.Errno) { refuse(e) }

// full returns the full name of what a name denotes, which has to be right.
func (n *namer) full(name string, right func(api.Export) bool) string {
	x, is := n.byName[name]
	if !is {
		n.miss(name, api.ErrUnbound)
	} else if !right(x) {
		n.miss(name, api.ErrSort)
	}
	return x.Full
}

func (n *namer) any(name string) string {
	return n.full(name, func(api.Export) bool { return true })
}

func (n *namer) class(name string) string {
	return n.full(name, func(x api.Export) bool { return x.Kind == api.DfClass })
}

func (n *namer) generic(name string) string {
	return n.full(name, func(x api.Export) bool { return x.Kind == api.DfGeneric })
}

// accessor returns the full name of a getter (of the arity 1) or a setter (2).
func (n *namer) accessor(name string, arity int) string {
	return n.full(name, func(x api.Export) bool { return x.Kind == api.DfGeneric && x.Arity == arity })
}

// global returns the name for which a free variable stands: one that a macro inserts ends with @0.
func global(variable string) string { return strings.TrimSuffix(variable, "@0") }

// scope reports whether a place is in the scope of a variable.
type scope func(variable string) bool

// outside is the scope of no variables.
func outside(string) bool { return false }

// within returns the scope of variables that are bound within this one.
func (s scope) within(variables []string) scope {
	return func(v string) bool { return slices.Contains(variables, v) || s(v) }
}

// bound returns the variables that an expression binds in its Args[i]. (The name of a local method is bound by the expression around it.)
func bound(e api.Expr, i int) []string {
	switch {
	case e.Kind == api.ExFn:
		return variables(e.Params)
	case e.Kind == api.ExBlock && i == 0, e.Kind == api.ExLet && (i == 1 || e.Args[0].Name == e.Name && e.Args[0].Kind == api.ExFn):
		return []string{e.Name}
	}
	return nil
}

func variables(l []api.Param) []string {
	var names []string
	for _, p := range l {
		names = append(names, p.Name)
	}
	return names
}

func (n *namer) expr(e api.Expr) api.Expr { return n.inner(e, outside) }

func (n *namer) exprs(l []api.Expr) []api.Expr {
	var named []api.Expr
	for _, e := range l {
		named = append(named, n.expr(e))
	}
	return named
}

// inner returns an expression that stands in a scope with its names resolved.
func (n *namer) inner(e api.Expr, s scope) api.Expr {
	named := e
	named.Type = n.typ(e.Type)
	named.Params = n.params(e.Params)
	switch {
	case e.Kind == api.ExVar && !s(e.Name):
		named.Name = n.any(global(e.Name))
	case e.Kind == api.ExSlot, e.Kind == api.ExSet:
		named.Name = n.generic(e.Name)
	}
	named.Keys = slices.Clone(e.Keys)
	named.Args = nil
	for i, a := range e.Args {
		named.Args = append(named.Args, n.inner(a, s.within(bound(e, i))))
	}
	return named
}

func (n *namer) params(l []api.Param) []api.Param {
	named := slices.Clone(l)
	for i, p := range l {
		named[i].Type = n.typ(p.Type)
	}
	return named
}

func (n *namer) typ(t api.Type) api.Type {
	if t.Kind == api.TyClass || t.Kind == api.TySub {
		t.Name = n.class(t.Name)
	}
	t.Args = n.types(t.Args)
	return t
}

func (n *namer) types(l []api.Type) []api.Type {
	named := slices.Clone(l)
	for i, t := range l {
		named[i] = n.typ(t)
	}
	return named
}
