package syntax

import (
	"slices"

	"skerry/api"
)

// bound returns the variables that a well-formed expression binds in its Args[i]. (The name of a local method is bound by the expression around it.)
func bound(e api.Expr, i int) []string {
	switch {
	case e.Kind == api.ExLet && (i == 1 || isLocal(e)), e.Kind == api.ExBlock && i == 0 && e.Name != "":
		return []string{e.Name}
	case e.Kind == api.ExFn:
		var l []string
		for _, p := range e.Params {
			l = append(l, p.Name)
		}
		return l
	}
	return nil
}

// finder goes through an expression from the left, and notes the free variables.
type finder struct {
	scope[string]
	found []string
}

func (f *finder) find(e api.Expr) {
	if e.Kind == api.ExVar && f.binding(e.Name) == 0 && !slices.Contains(f.found, e.Name) {
		f.found = append(f.found, e.Name)
	}
	for i, a := range e.Args {
		names := bound(e, i)
		f.enter(names...)
		f.find(a)
		f.leave(names...)
	}
}

// pair goes through two expressions at the same time. Bindings at the same place have the same number in both.
type pair struct {
	a, b scope[string]
}

// same reports whether two expressions are equal up to the names of bound variables.
func (p *pair) same(x, y api.Expr) bool {
	if x.Kind != y.Kind || x.Num != y.Num || !sameType(x.Type, y.Type) || !slices.Equal(x.Keys, y.Keys) ||
		!slices.EqualFunc(x.Params, y.Params, func(v, w api.Param) bool { return sameType(v.Type, w.Type) }) ||
		!p.sameName(x, y) || len(x.Args) != len(y.Args) {
		return false
	}
	for i := range x.Args {
		v, w := bound(x, i), bound(y, i)
		if len(v) != len(w) {
			return false
		}
		p.a.enter(v...)
		p.b.enter(w...)
		if !p.same(x.Args[i], y.Args[i]) {
			return false
		}
		p.a.leave(v...)
		p.b.leave(w...)
	}
	return true
}

// sameName reports whether the names of two expressions of the same kind are the same: those of variables if they are bound at the same place, or are equal and bound nowhere; those that bind variables if both do.
func (p *pair) sameName(x, y api.Expr) bool {
	switch x.Kind {
	case api.ExVar:
		n := p.a.binding(x.Name)
		return n == p.b.binding(y.Name) && (n != 0 || x.Name == y.Name)
	case api.ExLet, api.ExFn, api.ExBlock:
		return (x.Name == "") == (y.Name == "")
	}
	return x.Name == y.Name
}

func sameType(t, u api.Type) bool {
	return t.Kind == u.Kind && t.Name == u.Name && t.Lo == u.Lo && t.Hi == u.Hi && slices.EqualFunc(t.Args, u.Args, sameType)
}

// cloneType returns a type in new memory.
func cloneType(t api.Type) api.Type {
	t.Args = slices.Clone(t.Args)
	for i, a := range t.Args {
		t.Args[i] = cloneType(a)
	}
	return t
}

// The bounds beyond which the document promises nothing: the levels of an argument, and the types that the 2^31 - 1 bytes of a result have room for, if each of them, of 64 bytes, is there three times.
const (
	mostLevels = 1 << 16
	mostTypes  = (1<<31 - 1) / (3 * 64)
)

// room is how many types more can be copied.
type room int

// holds reports whether there is room for a type at a level. (There is none for a type that contains itself, of which copying would not end.)
func (r *room) holds(t api.Type, level int) bool {
	*r--
	if *r < 0 || level > mostLevels {
		return false
	}
	for _, a := range t.Args {
		if !r.holds(a, level+1) {
			return false
		}
	}
	return true
}

// accessors returns the getter and the setter of a slot of a class.
func accessors(class string, s api.Slot) []api.Def {
	object := api.Param{Name: "object", Type: api.Type{Kind: api.TyClass, Name: class}}
	value := api.Param{Name: "value", Type: cloneType(s.Type)}
	get := api.MethodDef{
		Generic: s.Name,
		Params:  []api.Param{object},
		Result:  cloneType(s.Type),
		Body:    api.Expr{Kind: api.ExSlot, Name: s.Name, Args: []api.Expr{use(object)}},
	}
	set := api.MethodDef{
		Generic: Setter(s.Name),
		Params:  []api.Param{value, object},
		Result:  cloneType(s.Type),
		Body:    api.Expr{Kind: api.ExSet, Name: s.Name, Args: []api.Expr{use(object), use(value)}},
	}
	return []api.Def{{Kind: api.DfMethod, Method: get}, {Kind: api.DfMethod, Method: set}}
}

// use returns the expression of a parameter.
func use(p api.Param) api.Expr { return api.Expr{Kind: api.ExVar, Name: p.Name} }
