package library

import (
	"skerry/api"
	"skerry/module"
)

// compile returns the unit of a source, or refuses it. Interfaces and macros are right.
func compile(s api.Source, own []api.Macro, used []api.Interface) api.Unit {
	known := faces(s, used)
	lib, main, e := module.Resolve(s, known)
	pass(e)
	u := api.Unit{Patch: s.Patch, Library: lib, Main: main}
	if !s.Patch {
		u.Interface = shown(s, known, own)
	}
	for _, i := range used {
		if among(libName(i), newUnit(u).needs()) {
			u.Against = append(u.Against, copyInterface(i))
		}
	}
	return u
}

// faces returns the faces against which a source is resolved: a patch knows all names of what it patches, and nothing else.
func faces(s api.Source, used []api.Interface) []api.Face {
	var l []api.Face
	for _, i := range used {
		switch {
		case !s.Patch:
			l = append(l, i.Face)
		case libName(i) == s.Name:
			l = append(l, i.Whole)
		}
	}
	return l
}

// shown returns the interface of a source.
func shown(s api.Source, faces []api.Face, own []api.Macro) api.Interface {
	face, e := module.Faced(s, faces)
	pass(e)
	whole, e := module.Whole(s, faces)
	pass(e)
	return api.Interface{Face: face, Whole: whole, Macros: each(own, copyMacro)}
}
