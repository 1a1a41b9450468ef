package syntax

import "skerry/api"

// census counts expressions and types, whatever their kinds are, and refuses too many of them: so it ends for trees of any shape, those that contain themselves included.
type census struct {
	nodes   int
	exprs   int // the expressions within which it is
	types   int // the types within which it is
	deepest int
}

func (c *census) count() {
	c.nodes++
	if c.nodes > api.MaxNodes {
		refuse(api.ErrLong)
	}
	c.deepest = max(c.deepest, c.exprs, c.types)
}

func (c *census) expr(e api.Expr) {
	c.exprs++
	c.count()
	c.typeIfAny(e.Type)
	c.params(e.Params)
	c.list(e.Args)
	c.exprs--
}

func (c *census) list(l []api.Expr) {
	for _, e := range l {
		c.expr(e)
	}
}

func (c *census) typ(t api.Type) {
	c.types++
	c.count()
	for _, a := range t.Args {
		c.typeIfAny(a)
	}
	c.types--
}

func (c *census) typeIfAny(t api.Type) {
	if !isZeroType(t) {
		c.typ(t)
	}
}

func (c *census) exprIfAny(e api.Expr) {
	if !isZeroExpr(e) {
		c.expr(e)
	}
}

func (c *census) params(l []api.Param) {
	for _, p := range l {
		c.typ(p.Type)
	}
}

func (c *census) source(s api.Source) {
	for _, d := range s.Defs {
		for _, s := range d.Class.Slots {
			c.typeIfAny(s.Type)
			c.list(s.Init)
		}
		c.params(d.Method.Params)
		c.typeIfAny(d.Method.Result)
		c.exprIfAny(d.Method.Body)
		for _, t := range d.Domain.Types {
			c.typ(t)
		}
		c.exprIfAny(d.Body)
	}
	c.list(s.Main)
}
