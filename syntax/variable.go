package syntax

import (
	"skerry/api"
	"skerry/lex"
)

// variable is what a variable in scope is known by.
type variable struct {
	text string
	mark int
}

// variable parses the name of a variable.
func (p *parser) variable() variable {
	if !p.isVariable() {
		p.refuseName()
	}
	t := p.take()
	return variable{t.Text, t.Mark}
}

// isVariable reports whether the next token can be the name of a variable. (That of a marked one gets an @ of its own.)
func (p *parser) isVariable() bool {
	return p.isName() && (p.now.Mark == 0 || lex.IsPlain(p.now.Text))
}

// name returns the name of a variable that is bound.
func (v variable) name() string {
	if v.mark == 0 {
		return v.text
	}
	return v.text + "@" + lex.Digits(v.mark)
}

// global returns the name of a variable that is not bound.
func (v variable) global() string {
	if v.mark == 0 {
		return v.text
	}
	return v.text + "@0"
}

// named parses a name in an expression.
func (p *parser) named() api.Expr {
	v := p.variable()
	x := api.Expr{Kind: api.ExVar, Name: v.global()}
	if p.scope.binding(v) != 0 {
		x.Name = v.name()
	}
	return x
}

// setter returns the function that sets what a call returns, and refuses what is no such call.
func (p *parser) setter(call api.Expr) api.Expr {
	if call.Kind != api.ExCall || call.Args[0].Kind != api.ExVar {
		p.refuse(api.ErrParse)
	}
	x := api.Expr{Kind: api.ExVar, Name: Setter(call.Args[0].Name)}
	if x.Name == "" {
		p.refuse(api.ErrParse)
	}
	text, end := lex.Split(x.Name)
	mark, e := lex.Number(end)
	if e == api.OK && mark > 0 && p.scope.binding(variable{text, mark}) == 0 && p.scope.binding(variable{text: x.Name}) == 0 {
		x.Name = text + "@0"
	}
	return x
}
