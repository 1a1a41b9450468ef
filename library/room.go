package library

import "skerry/api"

// The bounds beyond which the document promises nothing: the levels of an argument, and the bytes of a result, of which each expression (but for its type) and each type has some.
const (
	mostLevels = 1 << 16
	mostBytes  = 1<<31 - 1
	exprBytes  = 104
	typeBytes  = 64
)

// room is how many bytes of a result are left. What there is no room for is refused: so linking ends for units with expressions that contain themselves, too.
type room struct{ left, level int }

// checkRoom refuses units whose program there is no room for.
func (k *linker) checkRoom() {
	r := room{left: mostBytes}
	for _, u := range k.units {
		r.exprs(u.main)
		for _, d := range u.Defs {
			r.def(d)
		}
	}
}

// within takes bytes, and does something a level deeper.
func (r *room) within(bytes int, do func()) {
	r.left -= bytes
	r.level++
	need(r.left >= 0 && r.level <= mostLevels, api.ErrLarge)
	do()
	r.level--
}

func (r *room) def(d api.Def) {
	for _, s := range d.Class.Slots {
		r.typ(s.Type)
		r.exprs(s.Init)
	}
	r.params(d.Method.Params)
	r.typ(d.Method.Result)
	r.types(d.Domain.Types)
	r.exprs([]api.Expr{d.Method.Body, d.Body})
}

func (r *room) exprs(l []api.Expr) {
	for _, x := range l {
		r.within(exprBytes, func() {
			r.typ(x.Type)
			r.params(x.Params)
			r.exprs(x.Args)
		})
	}
}

func (r *room) params(l []api.Param) {
	for _, p := range l {
		r.typ(p.Type)
	}
}

func (r *room) types(l []api.Type) {
	for _, t := range l {
		r.typ(t)
	}
}

func (r *room) typ(t api.Type) {
	r.within(typeBytes, func() { r.types(t.Args) })
}
