package module_test

import (
	"fmt"
	"slices"
	"testing"

	"skerry/api"
	"skerry/lex"
	"skerry/module"
	"skerry/syntax"
)

// TestP5_1Reference compares all functions of a source with those of the second implementation.
func TestP5_1Reference(t *testing.T) {
	m := newMaker(1)
	tables, errors := map[api.Errno]int{}, map[api.Errno]int{}
	for range 7000 {
		s, faces := m.source()
		before := describe(s, faces)
		want := slowly(s, faces)
		got, wrong := quickly(s, faces)
		if !exactly(got, want) || wrong != "" {
			t.Fatalf("the outcome of %s is\n%+v (%s); expected\n%+v", before, got, wrong, want)
		}
		if describe(s, faces) != before {
			t.Fatalf("the arguments %s were changed", before)
		}
		tables[want.TableE]++
		errors[want.E]++
	}
	for _, e := range []api.Errno{api.OK, api.ErrFace, api.ErrUse, api.ErrExport, api.ErrQual, api.ErrClash} {
		if tables[e] < 25 {
			t.Errorf("only %d tables have the error %v", tables[e], e)
		}
	}
	for _, e := range []api.Errno{api.ErrUnbound, api.ErrSort, api.ErrForm} {
		if errors[e] < 30 {
			t.Errorf("only %d sources have the error %v", errors[e], e)
		}
	}
	if errors[api.OK] < 2000 || errors[api.ErrExport] < tables[api.ErrExport]+10 {
		t.Errorf("the sources have the errors %v", errors)
	}
}

// TestP5_1ReferenceExprs compares Expr, Type and Globals with the second implementation.
func TestP5_1ReferenceExprs(t *testing.T) {
	m := newMaker(2)
	m.wild = 15
	found := map[api.Errno]int{}
	for range 6000 {
		_, faces := m.source()
		if module.CheckFaces(faces) != api.OK {
			continue
		}
		r := &slow{}
		var table []api.Export
		for _, f := range faces {
			for _, x := range f.Names {
				table = append(table, x) // of several entries with a name the first one counts
				r.table = append(r.table, entry{Export: x})
			}
		}
		m.table = r.table
		x, y := m.expr(), m.typ(3)
		if syntax.CheckExpr(x) != api.OK || syntax.CheckType(y) != api.OK {
			continue
		}
		wantExpr, wantType := clone(x), clone(y)
		r.expr(&wantExpr)
		var globals []string
		for _, o := range r.found {
			if o.demand == "any" && !slices.Contains(globals, o.text()) {
				globals = append(globals, o.text())
			}
		}
		want := resolved(r)
		if got, e := module.Expr(table, x); e != want || e == api.OK && !exactly(got, wantExpr) || e != api.OK && !exactly(got, api.Expr{}) {
			t.Fatalf("Expr of %s over %s = %s, %v; expected %s, %v", showExpr(x), show(table), showExpr(got), e, showExpr(wantExpr), want)
		}
		if got := module.Globals(x); !slices.Equal(got, globals) {
			t.Fatalf("Globals of %s = %q; expected %q", showExpr(x), got, globals)
		}
		found[want]++
		r.found = nil
		r.typ(&wantType)
		want = resolved(r)
		if got, e := module.Type(table, y); e != want || e == api.OK && !exactly(got, wantType) || e != api.OK && !exactly(got, api.Type{}) {
			t.Fatalf("Type of %s over %s = %s, %v; expected %s, %v", showType(y), show(table), showType(got), e, showType(wantType), want)
		}
		found[want]++
	}
	if found[api.OK] < 2000 || found[api.ErrUnbound] < 500 || found[api.ErrSort] < 100 {
		t.Errorf("the errors are %v", found)
	}
}

// resolved replaces the names that were found, up to the first error.
func resolved(r *slow) api.Errno {
	for _, o := range r.found {
		if e := r.verdict(o); e != api.OK {
			return e
		}
		x, _ := r.denoted(o.text())
		*o.name = x.Full
	}
	return api.OK
}

// globals returns the global names and the names of classes in the types of a resolved library.
func globals(lib api.Library, main []api.Expr) []string {
	r := &slow{}
	lib, main = clone(lib), clone(main)
	for i := range lib.Defs {
		r.def(&lib.Defs[i])
	}
	for i := range main {
		r.expr(&main[i])
	}
	var l []string
	for _, o := range r.found {
		l = append(l, *o.name)
	}
	return l
}

// introduced returns the name that a definition introduces; an empty string for methods and domains.
func introduced(d api.Def) string {
	switch d.Kind {
	case api.DfClass:
		return d.Class.Name
	case api.DfGeneric:
		return d.Generic.Name
	case api.DfConst:
		return d.Name
	}
	return ""
}

// TestP5_2Closed: names of resolved libraries are full names of the table. (Sources that define one thing twice are left out for the last part.)
func TestP5_2Closed(t *testing.T) {
	twice := 0
	sources(3, 5000, func(_ *maker, s api.Source, faces []api.Face, out outcome) {
		fulls, own, had := map[string]bool{}, map[string]bool{}, map[string]bool{}
		for _, x := range out.Table {
			fulls[x.Full] = true
		}
		for _, f := range faces {
			for _, x := range f.Names {
				had[x.Full] = had[x.Full] || s.Patch && f.Lib == s.Name
			}
		}
		for _, x := range out.Table {
			if _, lib := lex.Split(x.Full); lib == s.Name && !had[x.Full] {
				own[x.Full] = true
			}
		}
		for _, name := range globals(out.Lib, out.Main) {
			if !fulls[name] {
				t.Fatalf("%s is resolved to %q, with %s, which is not in the table", describe(s, faces), showDefs(out.Lib.Defs), name)
			}
		}
		var written []string
		for _, d := range s.Defs {
			if name := introduced(d); name != "" && slices.Contains(written, name) {
				twice++
				return
			} else {
				written = append(written, name)
			}
		}
		var l []string
		for _, d := range out.Lib.Defs {
			name := introduced(d)
			if name != "" && (!own[name] && !had[name] || slices.Contains(l, name)) {
				t.Fatalf("%s is resolved to %q, which introduces %s", describe(s, faces), showDefs(out.Lib.Defs), name)
			}
			l = append(l, name)
		}
	})
	if twice == 0 {
		t.Error("no source defines a thing twice")
	}
}

// renamed returns an expression with other names of its bound variables.
func renamed(e api.Expr, to map[string]string, next *int) api.Expr {
	fresh := func(name string) string {
		*next++
		return pickBy(*next, "fresh", "fresh@", name+"-") + fmt.Sprint(*next)
	}
	within := func(to map[string]string, name, now string) map[string]string {
		to = cloneMap(to)
		to[name] = now
		return to
	}
	named := e
	named.Args = slices.Clone(e.Args)
	switch e.Kind {
	case api.ExVar:
		if now, is := to[e.Name]; is {
			named.Name = now
		}
		return named
	case api.ExLet:
		now := fresh("v")
		local := e.Args[0].Kind == api.ExFn && e.Args[0].Name != ""
		inner := within(to, e.Name, now)
		named.Name = now
		named.Args[0] = renamed(e.Args[0], to, next)
		if local {
			named.Args[0] = renamed(e.Args[0], inner, next)
			named.Args[0].Name = now
		}
		named.Args[1] = renamed(e.Args[1], inner, next)
		return named
	case api.ExBlock:
		if e.Name == "" {
			break
		}
		named.Name = fresh("b")
		for i, a := range e.Args {
			named.Args[i] = renamed(a, to, next)
		}
		named.Args[0] = renamed(e.Args[0], within(to, e.Name, named.Name), next)
		return named
	case api.ExFn:
		named.Params = slices.Clone(e.Params)
		for i, p := range e.Params {
			now := fresh("p")
			named.Params[i].Name = now
			to = within(to, p.Name, now)
		}
	}
	for i, a := range e.Args {
		named.Args[i] = renamed(a, to, next)
	}
	return named
}

func pickBy(n int, l ...string) string { return l[n%len(l)] }

func cloneMap(m map[string]string) map[string]string {
	c := map[string]string{}
	for k, v := range m {
		c[k] = v
	}
	return c
}

// TestP5_3Locals: bodies with other bound variables are resolved to bodies with other bound variables.
func TestP5_3Locals(t *testing.T) {
	changed := 0
	sources(4, 4000, func(_ *maker, s api.Source, faces []api.Face, out outcome) {
		other, next := clone(s), 0
		rename := func(e *api.Expr) {
			x := renamed(*e, nil, &next)
			if !syntax.Alpha(x, *e) {
				t.Fatalf("%s is not a renamed %s", showExpr(x), showExpr(*e))
			}
			if !exactly(x, *e) {
				changed++
			}
			*e = x
		}
		for i := range other.Defs {
			d := &other.Defs[i]
			for j := range d.Class.Slots {
				for k := range d.Class.Slots[j].Init {
					rename(&d.Class.Slots[j].Init[k])
				}
			}
			switch d.Kind {
			case api.DfMethod:
				rename(&d.Method.Body)
			case api.DfConst:
				rename(&d.Body)
			}
		}
		for i := range other.Main {
			rename(&other.Main[i])
		}
		lib, main, e := module.Resolve(other, faces)
		if e != api.OK || len(lib.Defs) != len(out.Lib.Defs) {
			t.Fatalf("Resolve of %s = %v, but not of %s", describe(s, faces), e, describe(other, faces))
		}
		same := func(a, b api.Expr) {
			if a.Kind == api.ExSlot || a.Kind == api.ExSet {
				return
			}
			if a.Kind != 0 && !syntax.Alpha(a, b) {
				t.Fatalf("%s is resolved to %s, but with other variables to %s", describe(s, faces), showExpr(a), showExpr(b))
			}
		}
		for i, d := range out.Lib.Defs {
			same(d.Body, lib.Defs[i].Body)
			same(d.Method.Body, lib.Defs[i].Method.Body)
			for j, slot := range d.Class.Slots {
				for k := range slot.Init {
					same(slot.Init[k], lib.Defs[i].Class.Slots[j].Init[k])
				}
			}
		}
		for i := range main {
			same(out.Main[i], main[i])
		}
	})
	if changed < 1000 {
		t.Errorf("only %d bodies were changed", changed)
	}
}

// TestP5_4Prefix: a prefix changes the names that a use clause brings, and nothing else.
func TestP5_4Prefix(t *testing.T) {
	m := newMaker(5)
	n := 0
	for range 3000 {
		faces := m.faces()
		if module.CheckFaces(faces) != api.OK {
			continue
		}
		s := api.Source{Name: "b"}
		for _, f := range faces {
			s.Uses = append(s.Uses, api.Use{Lib: f.Lib, All: true})
		}
		plain, e := module.Table(s, faces)
		if e != api.OK {
			continue
		}
		i := m.Intn(len(faces))
		s.Uses[i].Prefix = "pre_"
		s.Uses = s.Uses[i : i+1]
		alone, e := module.Table(s, faces)
		if e != api.OK || len(alone) != 11+len(faces[i].Names) {
			t.Fatalf("Table of %s = %s, %v", describe(s, faces), show(alone), e)
		}
		for j, x := range faces[i].Names {
			if !slices.Contains(plain, x) {
				t.Fatalf("a use clause does not bring %+v", x)
			}
			x.Name = "pre_" + x.Name
			if alone[11+j] != x {
				t.Fatalf("a use clause with a prefix brings %+v; expected %+v", alone[11+j], x)
			}
			n++
		}
	}
	if n < 2000 {
		t.Errorf("only %d names had a prefix", n)
	}
}

// TestP5_4Resolved: a library in which names have the prefix is resolved to the same.
func TestP5_4Resolved(t *testing.T) {
	const text = "library b; use geo%s; define class <c> (%s<shape>) slot s :: %s<shape>; end; define method %sarea (area :: <c>) instance?(s(area), %s<shape>) end; %sarea(make(<c>, area: 1));"
	plain, main, e := module.Resolve(source(t, fmt.Sprintf(text, "", "", "", "", "", "")), geo())
	lib, main2, e2 := module.Resolve(source(t, fmt.Sprintf(text, ", prefix: p_", "p_", "p_", "p_", "p_", "p_")), geo())
	if e != api.OK || e2 != api.OK || !exactly(plain, lib) || !exactly(main, main2) {
		t.Errorf("Resolve = %q, %v; with a prefix %q, %v", showDefs(plain.Defs), e, showDefs(lib.Defs), e2)
	}
}

// TestP5_5Uses: the order of use clauses and faces does not matter, nor does a face that is not used.
func TestP5_5Uses(t *testing.T) {
	m := newMaker(6)
	several := 0
	for range 2500 {
		s, faces := m.source()
		want, _ := quickly(s, faces)
		other := clone(s)
		m.Shuffle(len(other.Uses), func(i, j int) { other.Uses[i], other.Uses[j] = other.Uses[j], other.Uses[i] })
		lib, main, e := module.Resolve(other, faces)
		if e != want.E || !exactly(lib.Defs, want.Lib.Defs) || !exactly(main, want.Main) {
			t.Fatalf("Resolve of %s = %v, %q; in another order %v, %q", describe(s, faces), want.E, showDefs(want.Lib.Defs), e, showDefs(lib.Defs))
		}
		if len(s.Uses) > 1 && e == api.OK {
			several++
		}
		if module.CheckFaces(faces) != api.OK {
			continue
		}
		further := append(clone(faces), api.Face{Lib: "further", Names: entries("<pa>=<pa>@further <object>=x@a/3")})
		m.Shuffle(len(further), func(i, j int) { further[i], further[j] = further[j], further[i] })
		if got, wrong := quickly(s, further); !exactly(got, want) || wrong != "" {
			t.Fatalf("a face that is not used changes the outcome of %s to %+v", describe(s, faces), got)
		}
	}
	if several < 200 {
		t.Errorf("only %d sources had several use clauses", several)
	}
}

// TestP5_6Exported: faces are valid, and can be used.
func TestP5_6Exported(t *testing.T) {
	n := 0
	sources(7, 4000, func(m *maker, s api.Source, faces []api.Face, out outcome) {
		if e := module.CheckFaces([]api.Face{out.Faced, {Lib: "none"}}); e != api.OK {
			t.Fatalf("the face of %s, %+v, is not valid", describe(s, faces), out.Faced)
		}
		if e := module.CheckFaces([]api.Face{out.Whole}); e != api.OK || out.WholeE != api.OK {
			t.Fatalf("the whole face of %s, %+v, is not valid", describe(s, faces), out.Whole)
		}
		for _, x := range out.Faced.Names {
			if !slices.ContainsFunc(out.Whole.Names, func(y api.Export) bool { return x.Full == y.Full }) {
				t.Fatalf("the whole face of %s does not have %s", describe(s, faces), x.Full)
			}
		}
		user := api.Source{Name: "user", Uses: []api.Use{{Lib: s.Name, All: true}}}
		table, e := module.Table(user, []api.Face{out.Faced})
		if e != api.OK || !slices.Equal(table[11:], out.Faced.Names) {
			t.Fatalf("a library that uses %+v has the table %s, %v", out.Faced, show(table), e)
		}
		for _, x := range out.Faced.Names {
			user.Uses[0] = api.Use{Lib: s.Name, Names: []api.Rename{{From: x.Name, To: x.Name}}}
			table, e := module.Table(user, []api.Face{out.Faced})
			if e != api.OK || len(table) != 12 || table[11] != x {
				t.Fatalf("a library that imports %+v has the table %s, %v", x, show(table), e)
			}
			n++
		}
		// A patch of the library is resolved with its whole face, and has the same names.
		patch := api.Source{Name: s.Name, Patch: true}
		if table, e := module.Table(patch, []api.Face{out.Whole}); e != api.OK || !slices.Equal(table, out.Table) {
			t.Fatalf("a patch of %s has the table %s, %v", describe(s, faces), show(table), e)
		}
	})
	if n < 500 {
		t.Errorf("only %d names were imported", n)
	}
}

// TestP5_7Missing: just the names that are missing are unbound; a constant of such a name makes up for it.
func TestP5_7Missing(t *testing.T) {
	m := newMaker(8)
	m.wild = 8
	unbound, given := 0, 0
	for range 4000 {
		s, faces := m.source()
		out, _ := quickly(s, faces)
		if out.TableE != api.OK {
			continue
		}
		if out.E == api.ErrUnbound != (len(out.Missing) > 0) && !(len(out.Missing) > 0 && out.E == api.ErrSort) {
			t.Fatalf("Resolve of %s has the error %v, and %q are missing", describe(s, faces), out.E, out.Missing)
		}
		if !slices.IsSorted(out.Missing) || len(slices.Compact(slices.Clone(out.Missing))) != len(out.Missing) {
			t.Fatalf("%q are missing in %s", out.Missing, describe(s, faces))
		}
		for _, name := range out.Missing {
			unbound++
			more := clone(s)
			more.Defs = append(more.Defs, api.Def{Kind: api.DfConst, Name: name, Body: api.Expr{Kind: api.ExNum}})
			l, e := module.Missing(more, faces)
			if !lex.IsPlain(name) && e == api.ErrForm {
				continue
			}
			want := slices.DeleteFunc(slices.Clone(out.Missing), func(x string) bool { return x == name })
			if e != api.OK || !slices.Equal(l, want) {
				t.Fatalf("%s, with a constant %s, lacks %q, %v; expected %q", describe(s, faces), name, l, e, want)
			}
			given++
		}
	}
	if unbound < 1000 || given < 500 {
		t.Errorf("only %d names were missing, of which %d could be given", unbound, given)
	}
}

// TestP5_8Slots: the accessors of slots stand directly behind their classes.
func TestP5_8Slots(t *testing.T) {
	slots := 0
	sources(9, 4000, func(_ *maker, s api.Source, faces []api.Face, out outcome) {
		rest := out.Lib.Defs
		for _, d := range s.Defs {
			if d.Kind != api.DfClass {
				continue
			}
			i := slices.IndexFunc(rest, func(x api.Def) bool { return x.Kind == api.DfClass })
			class, behind := rest[i].Class, rest[i+1:]
			rest = behind
			j := 0
			for _, x := range d.Class.Slots {
				if x.Alloc == api.SlVirt {
					continue
				}
				getter, _ := module.Expr(out.Table, api.Expr{Kind: api.ExVar, Name: x.Name})
				setter, _ := module.Expr(out.Table, api.Expr{Kind: api.ExVar, Name: syntax.Setter(x.Name)})
				if class.Slots[j].Name != getter.Name || behind[2*j].Method.Generic != getter.Name || behind[2*j+1].Method.Generic != setter.Name ||
					behind[2*j].Method.Body.Kind != api.ExSlot || behind[2*j].Method.Body.Name != getter.Name ||
					behind[2*j+1].Method.Body.Kind != api.ExSet || behind[2*j+1].Method.Body.Name != getter.Name ||
					behind[2*j].Method.Params[0].Type.Name != class.Name {
					t.Fatalf("%s is resolved to %q: the slot %s", describe(s, faces), showDefs(out.Lib.Defs), x.Name)
				}
				j++
				slots++
			}
			if j != len(class.Slots) {
				t.Fatalf("%s is resolved to %q: it has %d slots", describe(s, faces), showDefs(out.Lib.Defs), j)
			}
		}
	})
	if slots < 1000 {
		t.Errorf("there were only %d slots", slots)
	}
}

// TestP5_9Parts: without its last definition a source has the first definitions.
func TestP5_9Parts(t *testing.T) {
	resolved := 0
	sources(10, 4000, func(_ *maker, s api.Source, faces []api.Face, out outcome) {
		n := len(s.Defs)
		if n == 0 {
			if len(out.Lib.Defs) > 0 {
				t.Fatalf("%s is resolved to %q", describe(s, faces), showDefs(out.Lib.Defs))
			}
			return
		}
		if s.Defs[n-1].Kind == api.DfGeneric {
			return
		}
		part := clone(s)
		part.Defs = part.Defs[:n-1]
		lib, _, e := module.Resolve(part, faces)
		if e == api.OK && (len(lib.Defs) >= len(out.Lib.Defs) || !exactly(lib.Defs, out.Lib.Defs[:len(lib.Defs)])) {
			t.Fatalf("%s is resolved to %q, without its last definition to %q", describe(s, faces), showDefs(out.Lib.Defs), showDefs(lib.Defs))
		}
		if e == api.OK {
			resolved++
		}
	})
	if resolved < 500 {
		t.Errorf("only %d sources were resolved without the last definition", resolved)
	}
	lib, main, e := module.Resolve(api.Source{Name: "a"}, nil)
	if e != api.OK || len(main) > 0 || !exactly(lib, api.Library{Name: "a"}) {
		t.Errorf("Resolve of an empty source = %+v, %+v, %v", lib, main, e)
	}
	lib, main, e = module.Resolve(api.Source{Name: "a", Main: []api.Expr{{Kind: api.ExVar, Name: "<object>"}}}, geo())
	if e != api.OK || len(main) != 1 || !exactly(lib, api.Library{Name: "a"}) {
		t.Errorf("Resolve of a main expression = %+v, %+v, %v", lib, main, e)
	}
}
