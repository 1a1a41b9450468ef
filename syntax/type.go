package syntax

import "skerry/api"

// object is the class of all values.
const object = "<object>"

// params parses parameters, and returns them, with their variables.
func (p *parser) params() (l []api.Param, variables []variable) {
	p.expect("(")
	p.list(func() {
		v := p.variable()
		variables = append(variables, v)
		l = append(l, api.Param{Name: v.name(), Type: p.paramType()})
	})
	return l, variables
}

func (p *parser) paramType() api.Type {
	if p.accept("==") {
		return p.single()
	}
	return p.typeBehind("::")
}

// typeBehind parses a type behind a sign; without this it is that of all values.
func (p *parser) typeBehind(sign string) api.Type {
	if p.accept(sign) {
		return p.typ()
	}
	return api.Type{Kind: api.TyClass, Name: object}
}

func (p *parser) typ() api.Type {
	if !p.isName() && !p.is("limited", "singleton", "subclass", "type-union") {
		p.refuseName()
	}
	if p.unions == 2*api.MaxDeep {
		p.refuse(api.ErrDeep)
	}
	if p.isName() {
		return api.Type{Kind: api.TyClass, Name: p.take().Text}
	}
	word := p.take().Text
	p.expect("(")
	if word == "type-union" {
		p.unions++
		t := api.Type{Kind: api.TyUnion, Args: p.types()}
		p.unions--
		return t
	}
	t := p.plainType(word)
	p.expect(")")
	return t
}

// plainType parses what is within the parentheses of a type that has a word, but for a union.
func (p *parser) plainType(word string) api.Type {
	switch word {
	case "limited":
		lo := p.kind(api.TkNum).Num
		p.expect(",")
		return api.Type{Kind: api.TyInt, Lo: lo, Hi: p.kind(api.TkNum).Num}
	case "singleton":
		return p.single()
	}
	return api.Type{Kind: api.TySub, Name: p.name().Text}
}

// types parses types, and the parenthesis that closes them.
func (p *parser) types() []api.Type {
	var l []api.Type
	p.list(func() { l = append(l, p.typ()) })
	return l
}

// single parses a value, and returns the type that only this has.
func (p *parser) single() api.Type {
	if p.is("#t", "#f") {
		return api.Type{Kind: api.TyBool, Lo: truth(p.take())}
	}
	n := p.kind(api.TkNum).Num
	return api.Type{Kind: api.TyInt, Lo: n, Hi: n}
}

// truth returns the number of the boolean that a token is.
func truth(t api.Token) int {
	if t.Text == "#t" {
		return 1
	}
	return 0
}
