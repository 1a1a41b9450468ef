package syntax

import "skerry/api"

// body parses statements up to the word end, or to another word that may end them here, and returns their expression.
func (p *parser) body(ends ...string) api.Expr {
	var l []api.Expr
	for !p.is("end") && !p.is(ends...) {
		if statement, is := p.statements[p.now.Text]; is {
			l = append(l, statement(ends...))
			break
		}
		l = append(l, p.expr())
		if !p.accept(";") {
			break
		}
	}
	switch len(l) {
	case 0:
		return no()
	case 1:
		return l[0]
	}
	return api.Expr{Kind: api.ExSeq, Args: l}
}

// bodyIn parses a body in the scope of variables.
func (p *parser) bodyIn(variables []variable, ends ...string) api.Expr {
	p.scope.enter(variables...)
	x := p.body(ends...)
	p.scope.leave(variables...)
	return x
}

// rest parses what follows a statement that binds variables.
func (p *parser) rest(ends []string, variables ...variable) api.Expr {
	if !p.accept(";") {
		return no()
	}
	return p.bodyIn(variables, ends...)
}

func (p *parser) let(ends ...string) api.Expr {
	p.take()
	if p.accept("handler") {
		return p.handler(ends)
	}
	v := p.variable()
	p.expect("=")
	value := p.expr()
	return api.Expr{Kind: api.ExLet, Name: v.name(), Args: []api.Expr{value, p.rest(ends, v)}}
}

func (p *parser) handler(ends []string) api.Expr {
	t := p.typ()
	p.expect("=")
	h := p.expr()
	return api.Expr{Kind: api.ExHandle, Type: t, Args: []api.Expr{h, p.rest(ends)}}
}

func (p *parser) local(ends ...string) api.Expr {
	p.take()
	p.expect("method")
	v := p.variable()
	p.scope.enter(v)
	f := p.lambda()
	p.scope.leave(v)
	f.Name = v.name()
	return api.Expr{Kind: api.ExLet, Name: f.Name, Args: []api.Expr{f, p.rest(ends, v)}}
}
