package module_test

import (
	"encoding/json"
	"slices"
	"strings"

	"skerry/api"
	"skerry/lex"
	"skerry/module"
	"skerry/syntax"
)

// entry is an entry of a table, and the rule by which it is one.
type entry struct {
	api.Export
	rule int
}

// slow makes everything that the package makes of a source, by the chapter, rule by rule: raw entries first, names by pointers to where they stand.
type slow struct {
	s     api.Source
	faces []api.Face

	raw   []entry
	table []entry
	found []occurrence
}

// occurrence is a name in a copy of a source, and what it has to denote: "any", "class", "generic", or "slot".
type occurrence struct {
	name   *string
	demand string
}

// text returns the name as it is looked up.
func (o occurrence) text() string {
	if o.demand == "any" && strings.HasSuffix(*o.name, "@0") {
		return (*o.name)[:len(*o.name)-2]
	}
	return *o.name
}

// clone returns a copy of a value in new memory.
func clone[T any](x T) T {
	text, err := json.Marshal(x)
	if err != nil {
		panic(err)
	}
	var y T
	if err := json.Unmarshal(text, &y); err != nil {
		panic(err)
	}
	return y
}

func (r *slow) face(lib string) *api.Face {
	for i := range r.faces {
		if r.faces[i].Lib == lib {
			return &r.faces[i]
		}
	}
	return nil
}

func (r *slow) add(rule int, name, full string, kind, arity int) {
	r.raw = append(r.raw, entry{api.Export{Name: name, Full: full, Kind: kind, Arity: arity}, rule})
}

// has reports whether there is a raw entry that is right.
func (r *slow) has(right func(entry) bool) bool { return slices.ContainsFunc(r.raw, right) }

// define adds the entries of rule 4. (Full may not be possible: then it is not looked at.)
func (r *slow) define() {
	own := func(name string) string { return name + "@" + r.s.Name }
	given := slices.Clone(r.raw)
	for _, d := range r.s.Defs {
		if d.Kind == api.DfGeneric {
			given = append(given, entry{api.Export{Name: d.Generic.Name}, 2})
		}
	}
	for _, d := range r.s.Defs {
		switch d.Kind {
		case api.DfClass:
			r.add(4, d.Class.Name, own(d.Class.Name), d.Kind, 0)
			for _, s := range d.Class.Slots {
				for i, name := range []string{s.Name, s.Name + "-setter"} {
					if !slices.ContainsFunc(given, func(x entry) bool { return x.Name == name && x.rule > 1 }) {
						r.add(5, name, own(name), api.DfGeneric, i+1) // 5: by the slot
					}
				}
			}
		case api.DfGeneric:
			r.add(4, d.Generic.Name, own(d.Generic.Name), d.Kind, d.Generic.Arity)
		case api.DfConst:
			r.add(4, d.Name, own(d.Name), d.Kind, 0)
		}
	}
}

// collect adds the raw entries, and makes the table; use clauses have to be right.
func (r *slow) collect() {
	for _, name := range strings.Fields(predefined) {
		name, _, _ = strings.Cut(name, "=")
		r.add(1, name, name, api.DfClass, 0)
	}
	for _, u := range r.s.Uses {
		for _, x := range r.face(u.Lib).Names {
			if u.All {
				r.add(2, u.Prefix+x.Name, x.Full, x.Kind, x.Arity)
			}
		}
		for _, n := range u.Names {
			for _, x := range r.face(u.Lib).Names {
				if x.Name == n.From {
					r.add(2, n.To, x.Full, x.Kind, x.Arity)
				}
			}
		}
	}
	if r.s.Patch {
		for _, x := range r.face(r.s.Name).Names {
			r.add(3, x.Name, x.Full, x.Kind, x.Arity)
		}
	}
	r.define()
	for _, x := range r.raw {
		if !slices.ContainsFunc(r.table, func(y entry) bool { return y.Export == x.Export }) {
			r.table = append(r.table, x)
		}
	}
}

// impossible reports whether a definition, a slot or a setter has no possible full name.
func (r *slow) impossible() bool {
	var names []string
	for _, d := range r.s.Defs {
		switch d.Kind {
		case api.DfClass:
			names = append(names, d.Class.Name)
			for _, s := range d.Class.Slots {
				names = append(names, s.Name, s.Name+"-setter")
			}
		case api.DfGeneric:
			names = append(names, d.Generic.Name)
		case api.DfConst:
			names = append(names, d.Name)
		}
	}
	return slices.ContainsFunc(names, func(s string) bool { return !lex.IsName(s + "@" + r.s.Name) })
}

// tableError returns the error of Table, and makes the table.
func (r *slow) tableError() api.Errno {
	if e := syntax.Check(r.s); e != api.OK {
		return e
	}
	if e := module.CheckFaces(r.faces); e != api.OK {
		return e
	}
	for _, u := range r.s.Uses {
		if r.face(u.Lib) == nil || u.Lib == r.s.Name {
			return api.ErrUse
		}
	}
	if r.s.Patch && r.face(r.s.Name) == nil {
		return api.ErrUse
	}
	for _, u := range r.s.Uses {
		for _, n := range u.Names {
			if !slices.ContainsFunc(r.face(u.Lib).Names, func(x api.Export) bool { return x.Name == n.From }) {
				return api.ErrExport
			}
		}
	}
	r.collect()
	if r.impossible() || r.has(func(x entry) bool { return x.rule == 2 && !lex.IsPlain(x.Name) }) {
		return api.ErrQual
	}
	for i, x := range r.table {
		for _, y := range r.table[:i] {
			if x.Name == y.Name {
				return api.ErrClash
			}
		}
	}
	if len(r.table) > 2000 {
		return api.ErrLong
	}
	return api.OK
}

func (r *slow) note(name *string, demand string) {
	r.found = append(r.found, occurrence{name, demand})
}

func (r *slow) typ(t *api.Type) {
	if t.Kind == api.TyClass || t.Kind == api.TySub {
		r.note(&t.Name, "class")
	}
	for i := range t.Args {
		r.typ(&t.Args[i])
	}
}

// expr notes the names of an expression, in which variables are bound around it.
func (r *slow) expr(e *api.Expr, bound ...string) {
	r.typ(&e.Type)
	for i := range e.Params {
		r.typ(&e.Params[i].Type)
	}
	switch {
	case e.Kind == api.ExSlot || e.Kind == api.ExSet:
		r.note(&e.Name, "generic")
	case e.Kind == api.ExVar && !slices.Contains(bound, e.Name):
		r.note(&e.Name, "any")
	}
	for i := range e.Args {
		within := slices.Clone(bound)
		switch {
		case e.Kind == api.ExFn:
			for _, p := range e.Params {
				within = append(within, p.Name)
			}
		case e.Kind == api.ExLet && i == 0 && e.Args[0].Kind == api.ExFn && e.Args[0].Name != "",
			e.Kind == api.ExLet && i == 1,
			e.Kind == api.ExBlock && i == 0:
			within = append(within, e.Name)
		}
		r.expr(&e.Args[i], within...)
	}
}

func (r *slow) method(m *api.MethodDef) {
	r.note(&m.Generic, "generic")
	var bound []string
	for i := range m.Params {
		bound = append(bound, m.Params[i].Name)
		r.typ(&m.Params[i].Type)
	}
	r.typ(&m.Result)
	r.expr(&m.Body, bound...)
}

func (r *slow) class(c *api.ClassDef) {
	for i := range c.Supers {
		r.note(&c.Supers[i], "class")
	}
	for i := range c.Slots {
		r.note(&c.Slots[i].Name, "slot")
		r.typ(&c.Slots[i].Type)
		for j := range c.Slots[i].Init {
			r.expr(&c.Slots[i].Init[j])
		}
	}
	r.note(&c.Name, "class")
}

func (r *slow) def(d *api.Def) {
	switch d.Kind {
	case api.DfClass:
		r.class(&d.Class)
	case api.DfGeneric:
		r.note(&d.Generic.Name, "generic")
	case api.DfMethod:
		r.method(&d.Method)
	case api.DfDomain:
		r.note(&d.Domain.Generic, "generic")
		for i := range d.Domain.Types {
			r.typ(&d.Domain.Types[i])
		}
	case api.DfConst:
		r.note(&d.Name, "const")
		r.expr(&d.Body)
	}
}

// expanded returns copies of the definitions, with what slots define in front of classes and behind them.
func (r *slow) expanded() []api.Def {
	var l []api.Def
	var made []string
	for _, d := range r.s.Defs {
		for _, s := range d.Class.Slots {
			for i, name := range []string{s.Name, s.Name + "-setter"} {
				own := r.has(func(x entry) bool {
					return x.rule == 5 && x.Name == name && !r.has(func(y entry) bool { return y.rule == 3 && y.Full == x.Full })
				})
				if own && !slices.Contains(made, name) {
					made = append(made, name)
					l = append(l, api.Def{Kind: api.DfGeneric, Generic: api.GenericDef{Name: name, Arity: i + 1}})
				}
			}
		}
		l = append(l, clone(d))
		if d.Kind == api.DfClass {
			l = append(l, clone(syntax.Accessors(d.Class))...)
		}
	}
	return l
}

// denoted returns the entry of the table with a name.
func (r *slow) denoted(name string) (entry, bool) {
	i := slices.IndexFunc(r.table, func(x entry) bool { return x.Name == name })
	if i < 0 {
		return entry{}, false
	}
	return r.table[i], true
}

// verdict returns the error of an occurrence.
func (r *slow) verdict(o occurrence) api.Errno {
	x, is := r.denoted(o.text())
	y, isToo := r.denoted(o.text() + "-setter")
	class, generic := x.Kind == api.DfClass, x.Kind == api.DfGeneric
	switch {
	case !is:
		return api.ErrUnbound
	case o.demand == "class" && !class,
		o.demand == "generic" && !generic,
		o.demand == "slot" && !(generic && x.Arity == 1 && isToo && y.Kind == api.DfGeneric && y.Arity == 2):
		return api.ErrSort
	}
	return api.OK
}

// outcome is what the functions return for a source.
type outcome struct {
	Table   []api.Export
	TableE  api.Errno
	Lib     api.Library
	Main    []api.Expr
	E       api.Errno
	Faced   api.Face
	Whole   api.Face
	WholeE  api.Errno
	Missing []string
}

// slowly returns the outcome of a source.
func slowly(s api.Source, faces []api.Face) outcome {
	r := &slow{s: s, faces: faces}
	if e := r.tableError(); e != api.OK {
		return outcome{TableE: e, E: e, WholeE: e}
	}
	var out outcome
	for _, x := range r.table {
		out.Table = append(out.Table, x.Export)
	}
	defs, main := r.expanded(), clone(s.Main)
	for i := range defs {
		r.def(&defs[i])
	}
	for i := range main {
		r.expr(&main[i])
	}
	for _, o := range r.found {
		e := r.verdict(o)
		if e == api.ErrUnbound && !slices.Contains(out.Missing, o.text()) {
			out.Missing = append(out.Missing, o.text())
		}
		if out.E == api.OK {
			out.E = e
		}
	}
	slices.Sort(out.Missing)
	for _, name := range s.Exports {
		if x, is := r.denoted(name); out.E == api.OK && (!is || x.rule == 1) {
			out.E = api.ErrExport
		}
	}
	out.WholeE = out.E
	if out.E == api.OK && len(r.table) > 311 {
		out.WholeE = api.ErrLong
	}
	if out.E != api.OK {
		return out
	}
	r.succeed(&out, defs, main)
	return out
}

// succeed fills in the results of a source without errors.
func (r *slow) succeed(out *outcome, defs []api.Def, main []api.Expr) {
	for _, o := range r.found {
		x, _ := r.denoted(o.text())
		*o.name = x.Full
	}
	for i := range defs {
		defs[i].Class.Slots = slices.DeleteFunc(defs[i].Class.Slots, func(s api.Slot) bool { return s.Alloc == api.SlVirt })
	}
	out.Lib, out.Main = api.Library{Name: r.s.Name, Defs: defs}, main
	for _, u := range r.s.Uses {
		out.Lib.Uses = append(out.Lib.Uses, u.Lib)
	}
	out.Faced.Lib = r.s.Name
	for _, name := range r.s.Exports {
		x, _ := r.denoted(name)
		out.Faced.Names = append(out.Faced.Names, x.Export)
	}
	if out.WholeE == api.OK {
		out.Whole = api.Face{Lib: r.s.Name, Names: out.Table[11:]}
	}
}

// quickly returns the outcome of a source by the functions of the package, and their names if one has another error than it should.
func quickly(s api.Source, faces []api.Face) (out outcome, wrong string) {
	out.Table, out.TableE = module.Table(s, faces)
	out.Lib, out.Main, out.E = module.Resolve(s, faces)
	var e api.Errno
	if out.Faced, e = module.Faced(s, faces); e != out.E {
		wrong += " Faced"
	}
	out.Whole, out.WholeE = module.Whole(s, faces)
	if out.Missing, e = module.Missing(s, faces); e != out.TableE {
		wrong += " Missing"
	}
	return out, wrong
}
