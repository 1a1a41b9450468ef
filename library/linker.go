package library

import (
	"iter"
	"slices"

	"skerry/api"
)

// unit is a unit; it has the name and the uses of its library.
type unit struct {
	api.Library
	patch   bool
	main    []api.Expr
	shown   api.Interface
	against []api.Interface
}

func newUnit(u api.Unit) unit {
	return unit{Library: u.Library, patch: u.Patch, main: u.Main, shown: u.Interface, against: u.Against}
}

// isUnit reports whether a unit is valid.
func isUnit(given api.Unit) bool {
	u := newUnit(given)
	if u.Name == "" || len(u.main) > 1 || len(u.against) > api.MaxLibs || !areInterfaces(u.against) || !differ(u.against, libName) {
		return false
	}
	if u.patch {
		return len(u.main) == 0 && len(u.Uses) == 0 && sameInterface(u.shown, api.Interface{})
	}
	return isInterface(u.shown) && libName(u.shown) == u.Name
}

// needs yields the names of the libraries without which a unit cannot be: those that it uses, or the one that it patches.
func (u unit) needs() iter.Seq[string] {
	if u.patch {
		return func(yield func(string) bool) { yield(u.Name) }
	}
	return slices.Values(u.Uses)
}

// linker has units, and the indices of those that are no patches by their names.
type linker struct {
	units []unit
	libs  map[string]int
}

// newLinker returns the linker of units, or refuses them.
func newLinker(l []api.Unit) *linker {
	need(len(l) <= api.MaxUnits, api.ErrLong)
	need(!slices.ContainsFunc(l, func(u api.Unit) bool { return !isUnit(u) }), api.ErrInterface)
	k := &linker{libs: map[string]int{}}
	for i, given := range l {
		u := newUnit(given)
		k.units = append(k.units, u)
		if u.patch {
			continue
		}
		_, twice := k.libs[u.Name]
		need(!twice, api.ErrTwin)
		k.libs[u.Name] = i
	}
	return k
}

// checkMissing refuses units that need a library that is not there.
func (k *linker) checkMissing() {
	for _, u := range k.units {
		for name := range u.needs() {
			_, is := k.libs[name]
			need(is, api.ErrMissing)
		}
	}
}

// order returns the indices of the libraries, each behind those that it uses, or refuses the units.
func (k *linker) order() []int {
	k.checkMissing()
	var l []int
	there := map[string]bool{}
	for len(l) < len(k.libs) {
		i := slices.IndexFunc(k.units, func(u unit) bool { return !u.patch && !there[u.Name] && u.has(there) })
		need(i >= 0, api.ErrLoop)
		there[k.units[i].Name] = true
		l = append(l, i)
	}
	return l
}

// has reports whether all that a unit needs is among some libraries.
func (u unit) has(libs map[string]bool) bool {
	for name := range u.needs() {
		if !libs[name] {
			return false
		}
	}
	return true
}

// stale returns the indices of the units that were compiled against other interfaces than those that are there.
func (k *linker) stale() []int {
	var l []int
	for i, u := range k.units {
		if k.isStale(u) {
			l = append(l, i)
		}
	}
	return l
}

func (k *linker) isStale(u unit) bool {
	known := map[string]bool{}
	for _, i := range u.against {
		now, is := k.libs[libName(i)]
		if !is || !sameInterface(i, k.units[now].shown) {
			return true
		}
		known[libName(i)] = true
	}
	return !u.has(known)
}

// program links the units, or refuses them.
func (k *linker) program() api.Program {
	order := k.order()
	need(len(k.stale()) == 0, api.ErrStale)
	main := k.main()
	k.checkRoom()
	p := api.Program{Main: copyExpr(main)}
	for _, i := range order {
		p.Libs = append(p.Libs, copyLibrary(k.units[i].Library))
	}
	for _, u := range k.units {
		if u.patch {
			p.Patches = append(p.Patches, copyLibrary(u.Library))
		}
	}
	return p
}

// main returns the only main expression of the units.
func (k *linker) main() api.Expr {
	var l []api.Expr
	for _, u := range k.units {
		l = append(l, u.main...)
	}
	need(len(l) == 1, api.ErrMain)
	return l[0]
}

// depends returns all libraries that the one with a name uses, directly or not. (It is one of them if it is in a loop.)
func (k *linker) depends(name string) map[string]bool {
	there := map[string]bool{}
	next := []string{name}
	for len(next) > 0 {
		u := k.units[k.libs[next[0]]]
		next = next[1:]
		for lib := range u.needs() {
			if !there[lib] {
				there[lib] = true
				next = append(next, lib)
			}
		}
	}
	return there
}
