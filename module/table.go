package module

import (
	"iter"
	"slices"

	"skerry/api"
	"skerry/lex"
	"skerry/syntax"
)

// maxEntries is how many entries a table has at most.
const maxEntries = 2000

// predefined has the names of the predefined classes.
var predefined = [...]string{
	"<object>", "<integer>", "<boolean>", "<class>", "<function>", "<condition>", "<serious-condition>",
	"<warning>", "<restart>", "<error>", "<fault>",
}

// table has what the names of a source denote.
type table struct {
	source api.Source
	faces  map[string]api.Face // by their libraries

	given map[string]bool // the names that a slot does not define: they come from elsewhere, or are those of generic functions
	had   map[string]bool // the full names that the library has of which the source is a patch

	list   []api.Export
	byName map[string]api.Export
}

// gather returns the table of a source, or refuses the source.
func gather(s api.Source, faces []api.Face) *table {
	if e := syntax.Check(s); e != api.OK {
		refuse(e)
	}
	need(areFaces(faces), api.ErrFace)
	t := &table{source: s, faces: map[string]api.Face{}, given: map[string]bool{}, had: map[string]bool{}}
	for _, f := range faces {
		t.faces[f.Lib] = f
	}
	t.checkUses()
	t.checkNames()
	t.note()
	need(t.fill(), api.ErrClash)
	need(len(t.list) <= maxEntries, api.ErrLong)
	return t
}

// checkUses refuses libraries and names of these that cannot be used.
func (t *table) checkUses() {
	for _, u := range t.source.Uses {
		_, is := t.faces[u.Lib]
		need(is && u.Lib != t.source.Name, api.ErrUse)
	}
	if t.source.Patch {
		_, is := t.faces[t.source.Name]
		need(is, api.ErrUse)
	}
	for _, u := range t.source.Uses {
		for _, r := range u.Names {
			_, is := find(t.faces[u.Lib], r.From)
			need(is, api.ErrExport)
		}
	}
}

// checkNames refuses names that would not be plain, or would have no full name.
func (t *table) checkNames() {
	for x := range t.used {
		need(lex.IsPlain(x.Name), api.ErrQual)
	}
	for _, d := range t.source.Defs {
		l := t.introduced(d)
		for _, s := range d.Class.Slots {
			l = append(l, t.accessors(s)...)
		}
		for _, x := range l {
			need(x.Full != "", api.ErrQual)
		}
	}
}

// note notes what slots do not define, and what is not new.
func (t *table) note() {
	for x := range t.used {
		t.given[x.Name] = true
	}
	for x := range t.patched {
		t.given[x.Name] = true
		t.had[x.Full] = true
	}
	for _, d := range t.source.Defs {
		if d.Kind == api.DfGeneric {
			t.given[d.Generic.Name] = true
		}
	}
}

// fill collects the entries, each once, and reports whether no name denotes two things.
func (t *table) fill() bool {
	t.byName = map[string]api.Export{}
	for x := range t.entries {
		y, is := t.byName[x.Name]
		if is && x != y {
			return false
		}
		if !is {
			t.byName[x.Name] = x
			t.list = append(t.list, x)
		}
	}
	return true
}

// entries yields what all the sources of names do, the one after the other.
func (t *table) entries(yield func(api.Export) bool) {
	for _, l := range []iter.Seq[api.Export]{t.predefined, t.used, t.patched, t.defined} {
		for x := range l {
			if !yield(x) {
				return
			}
		}
	}
}

func (t *table) predefined(yield func(api.Export) bool) {
	for _, name := range predefined {
		if !yield(api.Export{Name: name, Full: name, Kind: api.DfClass}) {
			return
		}
	}
}

// used yields the entries of the use clauses.
func (t *table) used(yield func(api.Export) bool) {
	for _, u := range t.source.Uses {
		for _, x := range brought(u, t.faces[u.Lib]) {
			if !yield(x) {
				return
			}
		}
	}
}

// brought returns what a use clause brings of a face.
func brought(u api.Use, f api.Face) []api.Export {
	var l []api.Export
	for _, r := range u.Names {
		x, _ := find(f, r.From)
		x.Name = r.To
		l = append(l, x)
	}
	if u.All {
		l = slices.Clone(f.Names)
		for i := range l {
			l[i].Name = u.Prefix + l[i].Name
		}
	}
	return l
}

// patched yields the entries of the library of which the source is a patch.
func (t *table) patched(yield func(api.Export) bool) {
	if !t.source.Patch {
		return
	}
	for _, x := range t.faces[t.source.Name].Names {
		if !yield(x) {
			return
		}
	}
}

// defined yields the entries of the definitions.
func (t *table) defined(yield func(api.Export) bool) {
	for _, d := range t.source.Defs {
		l := t.introduced(d)
		for _, s := range d.Class.Slots {
			for _, x := range t.accessors(s) {
				if !t.given[x.Name] {
					l = append(l, x)
				}
			}
		}
		for _, x := range l {
			if !yield(x) {
				return
			}
		}
	}
}

// introduced returns the entry of the name of a definition; none of a method or a domain.
func (t *table) introduced(d api.Def) []api.Export {
	switch d.Kind {
	case api.DfClass:
		return []api.Export{t.own(d.Class.Name, d.Kind, 0)}
	case api.DfGeneric:
		return []api.Export{t.own(d.Generic.Name, d.Kind, d.Generic.Arity)}
	case api.DfConst:
		return []api.Export{t.own(d.Name, d.Kind, 0)}
	}
	return nil
}

// accessors returns the entries that the getter and the setter of a slot have, if the slot defines them.
func (t *table) accessors(s api.Slot) []api.Export {
	return []api.Export{t.own(s.Name, api.DfGeneric, 1), t.own(syntax.Setter(s.Name), api.DfGeneric, 2)}
}

// own returns the entry of a definition of the source; its Full is empty if it is not possible.
func (t *table) own(name string, kind, arity int) api.Export {
	full, _ := Full(name, t.source.Name)
	return api.Export{Name: name, Full: full, Kind: kind, Arity: arity}
}

// isNew reports whether a generic function of a slot is defined by slots alone, and is not there before the source is.
func (t *table) isNew(x api.Export) bool { return !t.given[x.Name] && !t.had[x.Full] }

// exports returns the entries of the exported names.
func (t *table) exports() []api.Export {
	var l []api.Export
	for _, name := range t.source.Exports {
		l = append(l, t.byName[name])
	}
	return l
}

// all returns all entries but those of the predefined names.
func (t *table) all() []api.Export {
	l := slices.Clone(t.list[len(predefined):])
	need(len(l) <= api.MaxDefs, api.ErrLong)
	return l
}

// checkExports refuses exports of names that are not there, or are predefined.
func (t *table) checkExports() {
	for _, name := range t.source.Exports {
		_, is := t.byName[name]
		need(is && !t.isPredefined(name), api.ErrExport)
	}
}

func (t *table) isPredefined(name string) bool {
	for x := range t.predefined {
		if x.Name == name {
			return true
		}
	}
	return false
}

// firsts returns a list of entries by their names: of several ones with the same name the first one.
func firsts(l []api.Export) map[string]api.Export {
	byName := map[string]api.Export{}
	for _, x := range slices.Backward(l) {
		byName[x.Name] = x
	}
	return byName
}
