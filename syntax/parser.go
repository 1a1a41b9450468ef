package syntax

import "skerry/api"

// parser parses tokens by the rules of the grammar, of which each has a method: it takes its tokens, and returns its tree.
type parser struct {
	cursor
	scope  scope[variable]
	around int // the expressions, and the operands of prefix operators, within which the cursor is
	unions int // the types within which it is

	statements map[string]func(ends ...string) api.Expr // by its word, what parses a statement, and what follows this
	atoms      map[string]func() api.Expr               // by its first token, what parses an atom
}

func newParser(l []api.Token) *parser {
	p := &parser{cursor: newCursor(l), scope: newScope[variable]()}
	p.statements = map[string]func(ends ...string) api.Expr{"let": p.let, "local": p.local}
	p.atoms = map[string]func() api.Expr{
		"(": p.parentheses, "begin": p.begin, "method": p.function, "if": p.choice, "block": p.block,
		"next-method": p.next, "make": p.instance, "instance?": p.test, "load-patch": p.load,
		"print": p.primitive, "signal": p.primitive, "object-class": p.primitive, "quotient": p.primitive,
	}
	return p
}

// parse returns the tree of tokens by a rule; it has to be well-formed. With an error it returns where it was found.
func parse[T any](l []api.Token, rule func(*parser) T, check func(T) api.Errno) (tree T, at int, e api.Errno) {
	defer func() {
		if r, ok := recover().(refusal); ok {
			var none T
			tree, at, e = none, r.at, r.err
		}
	}()
	p := newParser(l)
	tree = rule(p)
	p.end()
	if e := check(tree); e != api.OK {
		p.refuse(e)
	}
	return tree, 0, api.OK
}

func (p *parser) source() api.Source {
	var s api.Source
	s.Patch = p.is("patch")
	if !s.Patch && !p.is("library") {
		p.refuse(api.ErrParse)
	}
	p.take()
	s.Name = p.name().Text
	p.expect(";")
	for p.is("use") {
		s.Uses = append(s.Uses, p.use())
	}
	if p.accept("export") {
		s.Exports = p.names()
		p.expect(";")
	}
	for p.is("define") {
		s.Defs = append(s.Defs, p.definition()...)
	}
	if !p.done() {
		s.Main = []api.Expr{p.expr()}
		p.accept(";")
	}
	return s
}

// names parses names with commas between them.
func (p *parser) names() []string {
	var l []string
	p.some(func() { l = append(l, p.name().Text) })
	return l
}

func (p *parser) use() api.Use {
	p.take()
	u := api.Use{Lib: p.name().Text, All: true}
	if p.accept(",") {
		switch {
		case p.accept("prefix:"):
			u.Prefix = p.name().Text
		case p.accept("import:"):
			u.All = false
			p.expect("{")
			p.some(func() { u.Names = append(u.Names, p.rename()) })
			p.expect("}")
		default:
			p.refuse(api.ErrParse)
		}
	}
	p.expect(";")
	return u
}

func (p *parser) rename() api.Rename {
	from := p.name().Text
	to := from
	if p.accept("=>") {
		to = p.name().Text
	}
	return api.Rename{From: from, To: to}
}

// definition parses a definition, and returns it, with the domain of a sealed method behind it.
func (p *parser) definition() []api.Def {
	p.take()
	abstract := p.accept("abstract")
	sealed := p.accept("sealed")
	var l []api.Def
	switch {
	case p.accept("class"):
		l = append(l, api.Def{Kind: api.DfClass, Class: p.class(abstract, sealed)})
	case abstract:
		p.refuse(api.ErrParse)
	case p.accept("generic"):
		l = append(l, api.Def{Kind: api.DfGeneric, Generic: p.generic(sealed)})
	case p.accept("method"):
		m := p.method()
		l = append(l, api.Def{Kind: api.DfMethod, Method: m})
		if sealed {
			l = append(l, api.Def{Kind: api.DfDomain, Domain: domainOf(m)})
		}
	case sealed:
		p.expect("domain")
		l = append(l, api.Def{Kind: api.DfDomain, Domain: p.domain()})
	default:
		p.expect("constant")
		l = append(l, p.constant())
	}
	p.expect(";")
	return l
}

func (p *parser) class(abstract, sealed bool) api.ClassDef {
	c := api.ClassDef{Name: p.name().Text, Abstract: abstract, Sealed: sealed}
	p.expect("(")
	c.Supers = p.names()
	p.expect(")")
	for !p.accept("end") {
		c.Slots = append(c.Slots, p.slot())
		p.expect(";")
	}
	return c
}

func (p *parser) slot() api.Slot {
	s := api.Slot{Alloc: api.SlInst}
	switch {
	case p.accept("class"):
		s.Alloc = api.SlClass
	case p.accept("each-subclass"):
		s.Alloc = api.SlEach
	case p.accept("virtual"):
		s.Alloc = api.SlVirt
	}
	p.expect("slot")
	s.Name = p.name().Text
	s.Type = p.typeBehind("::")
	for p.accept(",") {
		switch {
		case p.accept("init-keyword:"):
			s.Key = p.key()
		case p.accept("init-value:"):
			s.Init = []api.Expr{p.expr()}
		default:
			p.refuse(api.ErrParse)
		}
	}
	return s
}

// key parses a keyword, and returns it without its colon.
func (p *parser) key() string {
	text := p.kind(api.TkKey).Text
	return text[:len(text)-1]
}

func (p *parser) generic(sealed bool) api.GenericDef {
	g := api.GenericDef{Name: p.name().Text, Sealed: sealed}
	p.expect("(")
	p.list(func() {
		p.name()
		g.Arity++
	})
	return g
}

func (p *parser) method() api.MethodDef {
	m := api.MethodDef{Generic: p.name().Text}
	params, variables := p.params()
	m.Params = params
	m.Result = p.typeBehind("=>")
	m.Body = p.bodyIn(variables)
	p.expect("end")
	return m
}

// domainOf returns the domain that a method has if it is sealed.
func domainOf(m api.MethodDef) api.DomainDef {
	d := api.DomainDef{Generic: m.Generic}
	for _, param := range m.Params {
		d.Types = append(d.Types, cloneType(param.Type))
	}
	return d
}

func (p *parser) domain() api.DomainDef {
	d := api.DomainDef{Generic: p.name().Text}
	p.expect("(")
	d.Types = p.types()
	return d
}

func (p *parser) constant() api.Def {
	d := api.Def{Kind: api.DfConst, Name: p.name().Text}
	p.expect("=")
	d.Body = p.expr()
	return d
}
