package syntax_test

import (
	"math"
	"math/rand"

	"skerry/api"
)

// maker makes random well-formed trees.
type maker struct {
	*rand.Rand
	names []string // of variables
	left  int      // how many expressions it may make, but for the ones that end others
}

func newMaker(seed int64) *maker {
	return &maker{Rand: rand.New(rand.NewSource(seed)), names: []string{"x", "y", "z", "<a>", "f-setter", "x@1", "x@0", "y@lib", "let@1", long}}
}

func (m *maker) pick(l ...string) string { return l[m.Intn(len(l))] }

func (m *maker) name() string { return m.pick(m.names...) }

func (m *maker) plain() string {
	return m.pick("x", "y", "z", "<a>", "f-setter", long, "p!", "*v*")
}

// some returns different strings, from least to most, of those that it is given.
func (m *maker) some(least, most int, all ...string) []string {
	n := min(least+m.Intn(most-least+1), len(all))
	var l []string
	for _, i := range m.Perm(len(all))[:n] {
		l = append(l, all[i])
	}
	return l
}

func (m *maker) typ(deep int) api.Type {
	kind := 1 + m.Intn(5)
	if deep <= 0 {
		kind = 1 + m.Intn(4)
	}
	switch kind {
	case api.TyInt:
		lo, hi := m.num(), m.num()
		return api.Type{Kind: kind, Lo: min(lo, hi), Hi: max(lo, hi)}
	case api.TyBool:
		return api.Type{Kind: kind, Lo: m.Intn(2)}
	case api.TyUnion:
		t := api.Type{Kind: kind}
		for range m.Intn(4) {
			t.Args = append(t.Args, m.typ(deep-1))
		}
		return t
	}
	if m.Intn(2) == 0 {
		return object()
	}
	return api.Type{Kind: kind, Name: m.pick("<object>", m.name())}
}

func (m *maker) num() int {
	return []int{0, 1, -1, 7, -27, math.MaxInt, math.MinInt}[m.Intn(7)]
}

func (m *maker) params() []api.Param {
	var l []api.Param
	for _, x := range m.some(0, 3, m.names...) {
		l = append(l, api.Param{Name: x, Type: m.typ(2)})
	}
	return l
}

// exprs returns expressions, from least to most.
func (m *maker) exprs(least, most int) []api.Expr {
	var l []api.Expr
	for range least + m.Intn(most-least+1) {
		l = append(l, m.expr())
	}
	return l
}

// leaf returns an expression without others.
func (m *maker) leaf() api.Expr {
	m.left--
	switch m.Intn(5) {
	case 0:
		return num(m.num())
	case 1:
		return api.Expr{Kind: api.ExBool, Num: m.Intn(2)}
	case 2:
		return api.Expr{Kind: api.ExNext}
	}
	return name(m.name())
}

func (m *maker) expr() api.Expr {
	if m.left <= 0 {
		return m.leaf()
	}
	m.left--
	x := api.Expr{Kind: 1 + m.Intn(15)}
	switch x.Kind {
	case api.ExCall:
		x.Args = m.exprs(1, 3)
	case api.ExIf:
		x.Args = m.exprs(3, 3)
	case api.ExLet:
		return m.let()
	case api.ExSeq:
		x.Args = m.exprs(2, 4)
	case api.ExFn:
		x.Params, x.Args = m.params(), m.exprs(1, 1)
	case api.ExBlock:
		x.Name, x.Args = m.pick("", m.name()), m.exprs(1, 2)
	case api.ExHandle:
		x.Type, x.Args = m.typ(2), m.exprs(2, 2)
	case api.ExNext:
		x.Args = m.exprs(0, 2)
	case api.ExMake:
		x.Keys = m.some(0, 2, "k", "end", "x-1", long[1:])
		x.Args = m.exprs(1+len(x.Keys), 1+len(x.Keys))
	case api.ExPrim:
		x.Name, x.Args = m.pick("+", "-", "*", "quotient", "<", "<=", ">", ">=", "=", "=="), m.exprs(2, 2)
		if m.Intn(3) == 0 {
			x.Name, x.Args = m.pick("not", "print", "signal", "class-of"), x.Args[:1]
		}
	case api.ExIs:
		x.Type, x.Args = m.typ(2), m.exprs(1, 1)
	case 15:
		return api.Expr{Kind: api.ExLoad, Num: m.Intn(100)}
	default:
		return m.leaf()
	}
	return x
}

// let returns a let, a local method, or an or.
func (m *maker) let() api.Expr {
	switch m.Intn(4) {
	case 0:
		return or(m.expr(), m.expr())
	case 1:
		f := m.name()
		g := api.Expr{Kind: api.ExFn, Name: f, Params: m.params(), Args: m.exprs(1, 1)}
		return let(f, g, m.expr())
	}
	return let(m.name(), m.expr(), m.expr())
}

// tree returns a random expression of about as many expressions as it is told at most.
func (m *maker) tree(most int) api.Expr {
	m.left = 1 + m.Intn(most)
	return m.expr()
}

// binders returns an expression of bindings and variables of two names alone.
func (m *maker) binders(deep int) api.Expr {
	v := m.pick("x", "y")
	kind := m.Intn(6)
	if deep == 0 || kind == 0 {
		return name(v)
	}
	a := m.binders(deep - 1)
	switch kind {
	case 1:
		return fn("", a, v)
	case 2:
		return let(v, fn(v, a, m.some(0, 1, "x", "y")...), m.binders(deep-1))
	case 3:
		return api.Expr{Kind: api.ExBlock, Name: v, Args: []api.Expr{a, m.binders(deep - 1)}}
	case 4:
		return fn("", a, m.some(0, 2, "x", "y")...)
	}
	return let(v, a, m.binders(deep-1))
}

func (m *maker) flag() bool { return m.Intn(2) == 0 }

func (m *maker) class() api.ClassDef {
	c := api.ClassDef{Name: m.plain(), Supers: times(1+m.Intn(3), m.name()), Abstract: m.flag(), Sealed: m.flag()}
	for _, x := range m.some(0, 4, "x", "y", "<a>", long, "s!") {
		s := api.Slot{Name: x, Type: m.typ(2), Alloc: 1 + m.Intn(4)}
		if s.Alloc != api.SlVirt {
			s.Key = m.pick("", "k", "slot", long[1:])
			if m.flag() {
				s.Init = []api.Expr{m.tree(8)}
			}
		}
		c.Slots = append(c.Slots, s)
	}
	return c
}

func (m *maker) def() api.Def {
	d := api.Def{Kind: 1 + m.Intn(5)}
	switch d.Kind {
	case api.DfClass:
		d.Class = m.class()
	case api.DfGeneric:
		d.Generic = api.GenericDef{Name: m.plain(), Arity: m.Intn(7), Sealed: m.flag()}
	case api.DfMethod:
		d.Method = api.MethodDef{Generic: m.name(), Params: m.params(), Result: m.typ(2), Body: m.tree(20)}
	case api.DfDomain:
		d.Domain.Generic = m.name()
		for range m.Intn(7) {
			d.Domain.Types = append(d.Domain.Types, m.typ(2))
		}
	case api.DfConst:
		d.Name, d.Body = m.plain(), m.tree(20)
	}
	return d
}

func (m *maker) source() api.Source {
	s := api.Source{Name: m.pick("a", "lib-1", long), Patch: m.Intn(4) == 0}
	for range m.Intn(6) {
		s.Defs = append(s.Defs, m.def())
	}
	if s.Patch {
		return s
	}
	for _, lib := range m.some(0, 4, "a", "b", "c1", "d-e") {
		u := api.Use{Lib: lib, All: m.flag()}
		if u.All {
			u.Prefix = m.pick("", "p_", "x")
		} else {
			for range 1 + m.Intn(4) {
				u.Names = append(u.Names, api.Rename{From: m.plain(), To: m.plain()})
			}
		}
		s.Uses = append(s.Uses, u)
	}
	s.Exports = m.some(0, 4, "x", "y", "<a>", long, "s!")
	if m.flag() {
		s.Main = []api.Expr{m.tree(30)}
	}
	return s
}
