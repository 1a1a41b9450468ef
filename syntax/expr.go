package syntax

import "skerry/api"

// either is the name of the variable in the tree of a | b: ExLet(either, a, ExIf(either, either, b)).
const either = "%|"

// levels are the binary operators: those of each level are parsed ahead of those of the levels before it.
var levels = [...][]string{
	{"&", "|"},
	{"=", "==", "<", ">", "<=", ">="},
	{"+", "-"},
	{"*", "/"},
}

// begins reports whether an expression can begin with the next token.
func (p *parser) begins() bool {
	if p.isVariable() || p.is("-", "~") || p.now.Kind == api.TkNum || p.now.Kind == api.TkHash {
		return true
	}
	_, is := p.atoms[p.now.Text]
	return is
}

// enter begins an expression, or an operand of a prefix operator, and refuses it if it would be within too many others.
func (p *parser) enter() {
	if !p.begins() {
		p.refuseName()
	}
	if p.around == 2*api.MaxDeep {
		p.refuse(api.ErrDeep)
	}
	p.around++
}

func (p *parser) leave() { p.around-- }

func (p *parser) expr() api.Expr {
	p.enter()
	x := p.binary(0)
	if p.is(":=") {
		x = p.assignment(x)
	}
	p.leave()
	return x
}

// assignment parses the rest of an assignment to what a call returns.
func (p *parser) assignment(call api.Expr) api.Expr {
	setter := p.setter(call)
	p.take()
	args := []api.Expr{setter, p.expr()}
	return api.Expr{Kind: api.ExCall, Args: append(args, call.Args[1:]...)}
}

// binary parses operands with operators of a level, or of the ones behind it, between them.
func (p *parser) binary(level int) api.Expr {
	if level == len(levels) {
		return p.unary()
	}
	x := p.binary(level + 1)
	for sign := p.operator(level); sign != ""; sign = p.operator(level) {
		x = operation(sign, x, p.binary(level+1))
	}
	return x
}

// operator takes an operator of a level, and returns it; an empty string if the next token is none.
func (p *parser) operator(level int) string {
	for _, sign := range levels[level] {
		if p.accept(sign) {
			return sign
		}
	}
	return ""
}

// operation returns the tree of a binary operator.
func operation(sign string, a, b api.Expr) api.Expr {
	switch sign {
	case "&":
		return api.Expr{Kind: api.ExIf, Args: []api.Expr{a, b, no()}}
	case "|":
		x, y := api.Expr{Kind: api.ExVar, Name: either}, api.Expr{Kind: api.ExVar, Name: either}
		return api.Expr{Kind: api.ExLet, Name: either, Args: []api.Expr{a, {Kind: api.ExIf, Args: []api.Expr{x, y, b}}}}
	case "/":
		return prim("quotient", a, b)
	}
	return prim(sign, a, b)
}

func prim(name string, args ...api.Expr) api.Expr {
	return api.Expr{Kind: api.ExPrim, Name: name, Args: args}
}

// no returns the expression #f.
func no() api.Expr { return api.Expr{Kind: api.ExBool} }

func (p *parser) unary() api.Expr {
	switch {
	case p.accept("-"):
		return prim("-", api.Expr{Kind: api.ExNum}, p.operand())
	case p.accept("~"):
		return prim("not", p.operand())
	}
	return p.call()
}

// operand parses the operand of a prefix operator.
func (p *parser) operand() api.Expr {
	p.enter()
	x := p.unary()
	p.leave()
	return x
}

func (p *parser) call() api.Expr {
	x := p.atom()
	for {
		var args []api.Expr
		switch {
		case p.is("("):
			args = append([]api.Expr{x}, p.args()...)
		case p.accept("."):
			args = []api.Expr{p.named(), x}
		default:
			return x
		}
		x = api.Expr{Kind: api.ExCall, Args: args}
	}
}

// args parses arguments in parentheses.
func (p *parser) args() []api.Expr {
	var l []api.Expr
	p.expect("(")
	p.list(func() { l = append(l, p.expr()) })
	return l
}

func (p *parser) atom() api.Expr {
	switch p.now.Kind {
	case api.TkNum:
		return api.Expr{Kind: api.ExNum, Num: p.take().Num}
	case api.TkHash:
		return api.Expr{Kind: api.ExBool, Num: truth(p.take())}
	}
	if rule, is := p.atoms[p.now.Text]; is {
		return rule()
	}
	return p.named()
}

// parentheses parses an expression in parentheses.
func (p *parser) parentheses() api.Expr {
	p.expect("(")
	x := p.expr()
	p.expect(")")
	return x
}

func (p *parser) begin() api.Expr {
	p.take()
	x := p.body()
	p.expect("end")
	return x
}

func (p *parser) function() api.Expr {
	p.take()
	return p.lambda()
}

// lambda parses the parameters and the body of a function.
func (p *parser) lambda() api.Expr {
	params, variables := p.params()
	x := api.Expr{Kind: api.ExFn, Params: params, Args: []api.Expr{p.bodyIn(variables)}}
	p.expect("end")
	return x
}

// choice parses an if, or, from an elseif on, what stands for its else.
func (p *parser) choice() api.Expr {
	p.take()
	test := p.parentheses()
	yes := p.body("elseif", "else")
	if p.is("elseif") {
		return api.Expr{Kind: api.ExIf, Args: []api.Expr{test, yes, p.choice()}}
	}
	other := no()
	if p.accept("else") {
		other = p.body()
	}
	p.expect("end")
	return api.Expr{Kind: api.ExIf, Args: []api.Expr{test, yes, other}}
}

func (p *parser) block() api.Expr {
	p.take()
	x := api.Expr{Kind: api.ExBlock}
	var exit []variable
	p.expect("(")
	if !p.is(")") {
		exit = []variable{p.variable()}
		x.Name = exit[0].name()
	}
	p.expect(")")
	x.Args = []api.Expr{p.bodyIn(exit, "cleanup")}
	if p.accept("cleanup") {
		x.Args = append(x.Args, p.body())
	}
	p.expect("end")
	return x
}

func (p *parser) next() api.Expr {
	p.take()
	return api.Expr{Kind: api.ExNext, Args: p.args()}
}

func (p *parser) instance() api.Expr {
	p.take()
	p.expect("(")
	x := api.Expr{Kind: api.ExMake, Args: []api.Expr{p.expr()}}
	for p.accept(",") {
		x.Keys = append(x.Keys, p.key())
		x.Args = append(x.Args, p.expr())
	}
	p.expect(")")
	return x
}

func (p *parser) test() api.Expr {
	p.take()
	p.expect("(")
	x := api.Expr{Kind: api.ExIs, Args: []api.Expr{p.expr()}}
	p.expect(",")
	x.Type = p.typ()
	p.expect(")")
	return x
}

func (p *parser) load() api.Expr {
	p.take()
	p.expect("(")
	x := api.Expr{Kind: api.ExLoad, Num: p.kind(api.TkNum).Num}
	p.expect(")")
	return x
}

// primitive parses a primitive operation that is written like a call.
func (p *parser) primitive() api.Expr {
	word := p.take().Text
	p.expect("(")
	x := prim(word, p.expr())
	switch word {
	case "object-class":
		x.Name = "class-of"
	case "quotient":
		p.expect(",")
		x.Args = append(x.Args, p.expr())
	}
	p.expect(")")
	return x
}
