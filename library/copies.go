package library

import (
	"slices"

	"skerry/api"
)

// each returns a list, in new memory, of the copies of the elements of another one.
func each[T any](l []T, copied func(T) T) []T {
	var out []T
	for _, x := range l {
		out = append(out, copied(x))
	}
	return out
}

func copyInterface(i api.Interface) api.Interface {
	return api.Interface{Face: copyFace(i.Face), Whole: copyFace(i.Whole), Macros: each(i.Macros, copyMacro)}
}

func copyFace(f api.Face) api.Face { return api.Face{Lib: f.Lib, Names: slices.Clone(f.Names)} }

func copyMacro(m api.Macro) api.Macro {
	m.Rules = each(m.Rules, func(r api.MacroRule) api.MacroRule {
		return api.MacroRule{Pattern: each(r.Pattern, copyFrag), Template: each(r.Template, copyFrag)}
	})
	return m
}

// copyFrag copies a fragment. (Only groups have Kids: chapter 2.)
func copyFrag(f api.Frag) api.Frag {
	out := api.Frag{Tok: f.Tok, Open: f.Open}
	if f.Open != "" {
		out.Kids = each(f.Kids, copyFrag)
	}
	return out
}

func copyLibrary(l api.Library) api.Library {
	return api.Library{Name: l.Name, Uses: slices.Clone(l.Uses), Defs: each(l.Defs, copyDef)}
}

func copyDef(d api.Def) api.Def {
	d.Class.Supers = slices.Clone(d.Class.Supers)
	d.Class.Slots = each(d.Class.Slots, copySlot)
	d.Method.Params = each(d.Method.Params, copyParam)
	d.Method.Result = copyType(d.Method.Result)
	d.Method.Body = copyExpr(d.Method.Body)
	d.Domain.Types = each(d.Domain.Types, copyType)
	d.Body = copyExpr(d.Body)
	return d
}

func copySlot(s api.Slot) api.Slot {
	s.Type = copyType(s.Type)
	s.Init = each(s.Init, copyExpr)
	return s
}

func copyParam(p api.Param) api.Param { return api.Param{Name: p.Name, Type: copyType(p.Type)} }

func copyType(t api.Type) api.Type {
	t.Args = each(t.Args, copyType)
	return t
}

func copyExpr(x api.Expr) api.Expr {
	x.Type = copyType(x.Type)
	x.Params = each(x.Params, copyParam)
	x.Keys = slices.Clone(x.Keys)
	x.Args = each(x.Args, copyExpr)
	return x
}
