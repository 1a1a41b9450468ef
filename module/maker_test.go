package module_test

import (
	"fmt"
	"math/rand"
	"slices"
	"strings"

	"skerry/api"
)

// maker makes random faces and sources, most of which are right. A name tells what it denotes: <pk> and <qk> are classes of the library k, fk and gk generic functions, sk and tk those of slots, ck constants.
type maker struct {
	*rand.Rand
	table []entry // of the source that it makes
	wild  int     // one of so many names is any name
	left  int     // how many expressions may follow
}

func newMaker(seed int64) *maker {
	return &maker{Rand: rand.New(rand.NewSource(seed)), wild: 60}
}

func pick[T any](m *maker, l ...T) T { return l[m.Intn(len(l))] }

// rarely reports true in one of n cases.
func (m *maker) rarely(n int) bool { return m.Intn(n) == 0 }

// some returns different strings, at most so many, of those that it is given.
func (m *maker) some(most int, all ...string) []string {
	var l []string
	for _, i := range m.Perm(len(all))[:min(m.Intn(most+1), len(all))] {
		l = append(l, all[i])
	}
	return l
}

// named returns a name of a library.
func (m *maker) named(lib string) string {
	return pick(m, "<p"+lib+">", "<q"+lib+">", "f"+lib, "g"+lib, "s"+lib, "s"+lib+"-setter", "t"+lib, "t"+lib+"-setter", "c"+lib, "d"+lib)
}

// arity returns the arity of a generic function by its name.
func arity(name string) int {
	switch {
	case strings.HasSuffix(name, "-setter"), name[0] == 'g':
		return 2
	case name[0] == 'f':
		return 0
	}
	return 1
}

// export returns what a name denotes.
func (m *maker) export(name, lib string) api.Export {
	x := api.Export{Name: name, Full: name + "@" + lib}
	switch name[0] {
	case '<':
		x.Kind = api.DfClass
	case 'c', 'd':
		x.Kind = api.DfConst
	default:
		x.Kind, x.Arity = api.DfGeneric, arity(name)
	}
	if m.rarely(80) {
		x.Full = pick(m, "other@"+lib, "<pa>@a", "sa@a", "x@3")
	}
	if m.rarely(80) {
		x = api.Export{Name: name, Full: x.Full, Kind: api.DfGeneric, Arity: m.Intn(4)}
	}
	if m.rarely(80) {
		x.Name = pick(m, "<object>", "sa", "sa-setter", "<pa>", "ca", "end")
	}
	return x
}

func (m *maker) face(lib string) api.Face {
	f := api.Face{Lib: lib}
	for range m.Intn(6) {
		from := pick(m, lib, lib, lib, "k", "l")
		x := m.export(m.named(from), from)
		if !slices.ContainsFunc(f.Names, func(y api.Export) bool { return x.Name == y.Name }) {
			f.Names = append(f.Names, x)
		}
	}
	return f
}

func (m *maker) faces() []api.Face {
	var l []api.Face
	for _, i := range m.Perm(4)[:1+m.Intn(4)] {
		l = append(l, m.face([]string{"a", "k", "l", "m"}[i]))
	}
	if m.rarely(60) {
		l[0].Names = append(l[0].Names, api.Export{Name: "x", Full: pick(m, "x", "x@l"), Kind: m.Intn(8)})
	}
	return l
}

func (m *maker) use(f api.Face) api.Use {
	u := api.Use{Lib: f.Lib, All: len(f.Names) == 0 || m.Intn(3) > 0}
	if u.All {
		u.Prefix = pick(m, "", "", "x", "p_")
		if m.rarely(60) {
			u.Prefix = strings.Repeat("x", 36)
		}
		return u
	}
	for range 1 + m.Intn(3) {
		x := pick(m, f.Names...)
		r := api.Rename{From: x.Name, To: x.Name}
		if m.rarely(4) {
			r.To = pick(m, "sa", "ta", "y", "<y>", "z")
		}
		if m.rarely(100) {
			r.From = "nothing"
		}
		u.Names = append(u.Names, r)
	}
	return u
}

// frame returns a source with the names that it uses and introduces, and without those that it refers to.
func (m *maker) frame(faces []api.Face) api.Source {
	s := api.Source{Name: pick(m, "a", "a", "b"), Patch: m.rarely(3)}
	for range m.Intn(7) {
		s.Defs = append(s.Defs, m.introduction())
	}
	if s.Patch {
		if m.rarely(10) {
			s.Name = "z"
		}
		return s
	}
	for _, f := range faces {
		if f.Lib != s.Name && m.Intn(4) > 0 || m.rarely(60) {
			s.Uses = append(s.Uses, m.use(f))
		}
	}
	if m.rarely(60) && len(s.Uses) > 0 {
		s.Uses[0].Lib = "none"
	}
	return s
}

// introduction returns a definition with its name alone.
func (m *maker) introduction() api.Def {
	d := api.Def{Kind: 1 + m.Intn(5)}
	name := m.named("a")
	if m.rarely(120) {
		name = strings.Repeat("n", 39)
	}
	class, generic, constant := pick(m, "<pa>", "<qa>"), pick(m, "fa", "ga", "sa", "ta", "sa-setter"), pick(m, "ca", "da")
	if m.rarely(50) {
		class, generic, constant = name, name, name
	}
	switch d.Kind {
	case api.DfClass:
		d.Class = api.ClassDef{Name: class, Abstract: m.rarely(2), Sealed: m.rarely(2)}
		for _, x := range m.some(3, "sa", "ta", "ua", "sk") {
			if m.rarely(120) {
				x = strings.Repeat("n", 32)
			}
			d.Class.Slots = append(d.Class.Slots, api.Slot{Name: x, Alloc: 1 + m.Intn(4)})
		}
	case api.DfGeneric:
		d.Generic = api.GenericDef{Name: generic, Arity: arity(generic), Sealed: m.rarely(2)}
		if m.rarely(20) {
			d.Generic.Arity = m.Intn(7)
		}
	case api.DfConst:
		d.Name = constant
	}
	return d
}

// known returns a name of one of the kinds (of any one, if there are none) that the table has, or (rarely) another name.
func (m *maker) known(kinds ...int) string {
	if m.rarely(m.wild) {
		return pick(m, "nothing", "<nothing>", m.named("a"), m.named("k"), "<pa>@0", "fa@a")
	}
	if m.rarely(m.wild) {
		kinds = nil
	}
	var l []string
	for _, x := range m.table {
		if len(kinds) == 0 || slices.Contains(kinds, x.Kind) {
			l = append(l, x.Name)
		}
	}
	if len(l) == 0 {
		return "none"
	}
	return l[len(l)-1-min(m.Intn(len(l)), m.Intn(len(l)))] // rather one of the last ones, which are not predefined
}

func (m *maker) typ(deep int) api.Type {
	switch kind := 1 + m.Intn(5); {
	case kind == api.TyInt:
		return api.Type{Kind: kind, Lo: m.Intn(3), Hi: 3}
	case kind == api.TyBool:
		return api.Type{Kind: kind, Lo: m.Intn(2)}
	case kind == api.TyUnion && deep > 0:
		return api.Type{Kind: kind, Args: m.types(deep - 1)}
	case kind == api.TySub:
		return api.Type{Kind: kind, Name: m.known(api.DfClass)}
	}
	return api.Type{Kind: api.TyClass, Name: m.known(api.DfClass)}
}

func (m *maker) types(deep int) []api.Type {
	var l []api.Type
	for range m.Intn(4) {
		l = append(l, m.typ(deep))
	}
	return l
}

// variable returns a local variable.
func (m *maker) variable() string { return pick(m, "v", "w", "ca", "fa", "<pa>", "v@1", "ca@0") }

func (m *maker) params() []api.Param {
	var l []api.Param
	for _, x := range m.some(3, "v", "w", "ca", "fa", "<pa>", "v@1", "ca@0") {
		l = append(l, api.Param{Name: x, Type: m.typ(2)})
	}
	return l
}

func (m *maker) exprs(n int, bound ...string) []api.Expr {
	var l []api.Expr
	for range n {
		l = append(l, m.inner(bound...))
	}
	return l
}

// expr returns a random expression.
func (m *maker) expr(bound ...string) api.Expr {
	m.left = m.Intn(14)
	return m.inner(bound...)
}

// inner returns an expression in which variables are bound around it.
func (m *maker) inner(bound ...string) api.Expr {
	m.left--
	within := func(names ...string) []string { return append(slices.Clone(bound), names...) }
	kind := pick(m, api.ExVar, api.ExVar, api.ExVar, api.ExCall, api.ExCall, api.ExIf, api.ExLet, api.ExLet, api.ExLet, api.ExSeq, api.ExFn, api.ExBlock, api.ExHandle, api.ExNext, api.ExMake, api.ExPrim, api.ExIs, api.ExLoad)
	if m.left <= 0 {
		kind = api.ExVar
	}
	x := api.Expr{Kind: kind}
	switch kind {
	case api.ExVar:
		x.Name = m.known()
		if len(bound) > 0 && m.rarely(2) {
			x.Name = pick(m, bound...)
		} else if m.rarely(3) && !strings.Contains(x.Name, "@") {
			x.Name += "@0"
		}
	case api.ExCall:
		x.Args = m.exprs(1+m.Intn(3), bound...)
	case api.ExIf:
		x.Args = m.exprs(3, bound...)
	case api.ExLet:
		x.Name = m.variable()
		first := m.inner(bound...)
		if m.rarely(2) {
			first = m.fn(within(x.Name))
			first.Name = x.Name
		}
		x.Args = []api.Expr{first, m.inner(within(x.Name)...)}
	case api.ExSeq:
		x.Args = m.exprs(2+m.Intn(2), bound...)
	case api.ExFn:
		return m.fn(bound)
	case api.ExBlock:
		x.Args = m.exprs(1+m.Intn(2), bound...)
		if m.rarely(2) {
			x.Name = m.variable()
			x.Args[0] = m.inner(within(x.Name)...)
		}
	case api.ExHandle:
		x.Type, x.Args = m.typ(2), m.exprs(2, bound...)
	case api.ExNext:
		x.Args = m.exprs(m.Intn(3), bound...)
	case api.ExMake:
		x.Keys = m.some(2, "k", "ca", "fa")
		x.Args = m.exprs(1+len(x.Keys), bound...)
	case api.ExPrim:
		x.Name, x.Args = "+", m.exprs(2, bound...)
	case api.ExIs:
		x.Type, x.Args = m.typ(2), m.exprs(1, bound...)
	case api.ExLoad:
		x.Num = m.Intn(9)
	}
	return x
}

// fn returns a function.
func (m *maker) fn(bound []string) api.Expr {
	x := api.Expr{Kind: api.ExFn, Params: m.params()}
	bound = append(slices.Clone(bound), variables(x.Params)...)
	x.Args = []api.Expr{m.inner(bound...)}
	return x
}

func variables(l []api.Param) []string {
	var out []string
	for _, p := range l {
		out = append(out, p.Name)
	}
	return out
}

// refer fills in what the definitions of a frame refer to.
func (m *maker) refer(d *api.Def) {
	switch d.Kind {
	case api.DfClass:
		for range 1 + m.Intn(2) {
			d.Class.Supers = append(d.Class.Supers, m.known(api.DfClass))
		}
		for i := range d.Class.Slots {
			s := &d.Class.Slots[i]
			s.Type = m.typ(2)
			if s.Alloc != api.SlVirt && m.rarely(2) {
				s.Key, s.Init = "k", []api.Expr{m.expr()}
			}
		}
	case api.DfMethod:
		d.Method = api.MethodDef{Generic: m.known(api.DfGeneric), Params: m.params(), Result: m.typ(1)}
		d.Method.Body = m.expr(variables(d.Method.Params)...)
	case api.DfDomain:
		d.Domain = api.DomainDef{Generic: m.known(api.DfGeneric), Types: m.types(1)}
	case api.DfConst:
		d.Body = m.expr()
	}
}

// source returns a source, with faces.
func (m *maker) source() (api.Source, []api.Face) {
	faces := m.faces()
	s := m.frame(faces)
	r := &slow{s: s, faces: faces}
	known := true
	for _, u := range s.Uses {
		known = known && r.face(u.Lib) != nil
	}
	if known && (!s.Patch || r.face(s.Name) != nil) {
		r.collect()
	}
	m.table = r.table
	for i := range s.Defs {
		m.refer(&s.Defs[i])
	}
	if s.Patch {
		return s, faces
	}
	if m.rarely(2) {
		s.Main = []api.Expr{m.expr()}
	}
	for range m.Intn(4) {
		if x := m.known(); !strings.Contains(x, "@") && !slices.Contains(s.Exports, x) && (len(m.table) < 12 || x != m.table[0].Name) {
			s.Exports = append(s.Exports, x)
		}
	}
	return s, faces
}

// sources calls f with random sources, and with what the package makes of them if there is no error.
func sources(seed int64, n int, f func(m *maker, s api.Source, faces []api.Face, out outcome)) {
	m := newMaker(seed)
	for range n {
		s, faces := m.source()
		if out, _ := quickly(s, faces); out.E == api.OK {
			f(m, s, faces, out)
		}
	}
}

// describe returns a source and faces as a text.
func describe(s api.Source, faces []api.Face) string {
	text := fmt.Sprintf("%+v", s)
	for _, f := range faces {
		text += "\n" + f.Lib + ": " + show(f.Names)
	}
	return text
}
