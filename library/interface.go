package library

import (
	"slices"

	"skerry/api"
	"skerry/fragment"
	"skerry/macro"
	"skerry/module"
)

// firsts returns the elements of a list; of several with the same name the first one.
func firsts[T any](l []T, name func(T) string) []T {
	there := map[string]bool{}
	var out []T
	for _, x := range l {
		if n := name(x); !there[n] {
			there[n] = true
			out = append(out, x)
		}
	}
	return out
}

// differ reports whether the names of the elements of a list are different.
func differ[T any](l []T, name func(T) string) bool { return len(firsts(l, name)) == len(l) }

// lists returns a function that compares lists, given one that compares their elements.
func lists[T any](same func(a, b T) bool) func(a, b []T) bool {
	return func(a, b []T) bool { return slices.EqualFunc(a, b, same) }
}

func macroName(m api.Macro) string { return m.Name }

func libName(i api.Interface) string { return i.Face.Lib }

func isInterface(i api.Interface) bool {
	return isFace(i.Face) && isFace(i.Whole) && i.Face.Lib == i.Whole.Lib && areMacros(i.Macros)
}

func isFace(f api.Face) bool { return module.CheckFaces([]api.Face{f}) == api.OK }

// areMacros reports whether macros may be those of an interface.
func areMacros(l []api.Macro) bool {
	return len(l) <= api.MaxMacros && differ(l, macroName) &&
		!slices.ContainsFunc(l, func(m api.Macro) bool { return macro.Check(m) != api.OK })
}

// areInterfaces reports whether all interfaces of a list are valid.
func areInterfaces(l []api.Interface) bool {
	return !slices.ContainsFunc(l, func(i api.Interface) bool { return !isInterface(i) })
}

// checkInterfaces refuses interfaces that a function cannot take.
func checkInterfaces(l []api.Interface) {
	need(len(l) <= api.MaxLibs, api.ErrLong)
	need(areInterfaces(l), api.ErrInterface)
	need(differ(l, libName), api.ErrTwin)
}

// sameInterface reports whether two valid interfaces are the same.
func sameInterface(a, b api.Interface) bool {
	return sameFace(a.Face, b.Face) && sameFace(a.Whole, b.Whole) && lists(sameMacro)(a.Macros, b.Macros)
}

func sameFace(a, b api.Face) bool { return a.Lib == b.Lib && slices.Equal(a.Names, b.Names) }

func sameMacro(a, b api.Macro) bool {
	return a.Name == b.Name && a.Statement == b.Statement && lists(sameRule)(a.Rules, b.Rules)
}

func sameRule(a, b api.MacroRule) bool {
	return sameFrags(a.Pattern, b.Pattern) && sameFrags(a.Template, b.Template)
}

// sameFrags compares copies, in which tokens have no Kids: package macro, which does not look at these, has not checked how deep they are.
func sameFrags(a, b []api.Frag) bool { return fragment.Same(each(a, copyFrag), each(b, copyFrag)) }
