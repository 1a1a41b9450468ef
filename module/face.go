package module

import (
	"slices"

	"skerry/api"
	"skerry/lex"
)

// areFaces reports whether a list of faces is valid.
func areFaces(l []api.Face) bool {
	if len(l) > api.MaxLibs || !differ(l, func(f api.Face) string { return f.Lib }) {
		return false
	}
	return !slices.ContainsFunc(l, func(f api.Face) bool { return !isFace(f) })
}

func isFace(f api.Face) bool {
	if !lex.IsPlain(f.Lib) || len(f.Names) > api.MaxDefs || !differ(f.Names, func(x api.Export) string { return x.Name }) {
		return false
	}
	return !slices.ContainsFunc(f.Names, func(x api.Export) bool { return !isExport(x) })
}

// isExport reports whether a name of a face is valid.
func isExport(x api.Export) bool {
	most := -1 // of a kind that may not be there
	switch x.Kind {
	case api.DfGeneric:
		most = api.MaxParams
	case api.DfClass, api.DfConst:
		most = 0
	}
	return lex.IsPlain(x.Name) && lex.IsName(x.Full) && !lex.IsPlain(x.Full) && x.Arity >= 0 && x.Arity <= most
}

// differ reports whether the names of the elements of a list are different.
func differ[T any](l []T, name func(T) string) bool {
	names := map[string]bool{}
	for _, x := range l {
		names[name(x)] = true
	}
	return len(names) == len(l)
}

// find returns what a name of a face denotes, and whether the face has this name.
func find(f api.Face, name string) (api.Export, bool) {
	for _, x := range f.Names {
		if x.Name == name {
			return x, true
		}
	}
	return api.Export{}, false
}
