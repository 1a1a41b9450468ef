package macro

import (
	"iter"
	"slices"

	"skerry/api"
	"skerry/fragment"
)

// call is a call of a macro.
type call struct {
	macro  api.Macro
	args   []api.Frag  // the fragments to match
	list   *[]api.Frag // where it stands
	from   int         // its first fragment there
	to     int         // the one behind its last fragment
	at     int         // the index of its first token among all tokens
	around int         // the groups around it
}

// maker makes expansions, one after the other, in a list of its own.
type maker struct {
	macros map[string]api.Macro
	list   []api.Frag
}

// newMaker returns a maker for a list, and refuses a list or macros that are not right.
func newMaker(macros []api.Macro, l []api.Frag) *maker {
	checkLimits(l)
	return &maker{checkMacros(macros), copied(l)}
}

// calls yields the calls in the list. (Nothing may be replaced before it is left.)
func (m *maker) calls() iter.Seq[call] {
	return func(yield func(call) bool) {
		at := 0
		var pass func(l *[]api.Frag, around int) bool
		pass = func(l *[]api.Frag, around int) bool {
			for i, f := range *l {
				c, is := m.begins((*l)[i:])
				c.list, c.from, c.to, c.at, c.around = l, i, i+c.to, at, around
				if is && !yield(c) {
					return false
				}
				at++
				if f.Open == "" {
					continue
				}
				if !pass(&(*l)[i].Kids, around+1) {
					return false
				}
				at++
			}
			return true
		}
		pass(&m.list, 0)
	}
}

// begins reports whether a list begins with a call, and returns as much of it as the list tells.
func (m *maker) begins(l []api.Frag) (call, bool) {
	if l[0].Open != "" {
		x, is := m.macros[l[0].Open]
		return call{macro: x, args: l[0].Kids, to: 1}, is && x.Statement
	}
	if l[0].Tok.Kind == api.TkName && len(l) > 1 && l[1].Open == "(" {
		x, is := m.macros[l[0].Tok.Text]
		return call{macro: x, args: l[1].Kids, to: 2}, is && !x.Statement
	}
	return call{}, false
}

// first returns the first call, and whether there is one.
func (m *maker) first() (call, bool) {
	for c := range m.calls() {
		return c, true
	}
	return call{}, false
}

func (m *maker) hasCall() bool {
	_, is := m.first()
	return is
}

// once replaces the first call, and returns the expansion, and whether there was a call.
func (m *maker) once(mark int) (api.Expansion, bool) {
	c, is := m.first()
	if !is {
		return api.Expansion{}, false
	}
	x := expansion{call: c, mark: mark}
	x.size = fragment.Size(m.list) - fragment.Size((*x.list)[x.from:x.to])
	x.choose()
	filled := x.fill(x.macro.Rules[x.rule].Template, x.around)
	*x.list = slices.Replace(*x.list, x.from, x.to, filled...)
	out := x.bare()
	out.Rule, out.Binds = x.rule, x.copies()
	return out, true
}

// makes makes the next expansion, and reports whether it is this one.
func (m *maker) makes(x api.Expansion) (is bool) {
	defer func() {
		if _, ok := recover().(refusal); ok {
			is = false
		}
	}()
	checkMark(x.Mark)
	y, is := m.once(x.Mark)
	return is && same(x, y)
}

// expansion is a call that is replaced by a filled template.
type expansion struct {
	table
	call
	mark int
	rule int
	size int // the tokens so far of what will be the list
}

// bare returns the expansion with Macro, Mark and At alone.
func (x *expansion) bare() api.Expansion {
	return api.Expansion{Macro: x.macro.Name, Mark: x.mark, At: x.at}
}

// refuse leaves the expansion. (One that is not of a call has no name, and so the call of the refusal has none.)
func (x *expansion) refuse(e api.Errno) { panic(refusal{e, x.bare()}) }

// choose takes the first rule that the call matches, with what its variables take.
func (x *expansion) choose() {
	for i, r := range x.macro.Rules {
		if t, is := match(r.Pattern, x.args); is {
			x.rule, x.table = i, t
			return
		}
	}
	x.refuse(api.ErrMatch)
}

// fill returns the filled template for a place within some groups.
func (x *expansion) fill(template []api.Frag, around int) []api.Frag {
	var out []api.Frag
	for _, f := range template {
		if f.Tok.Kind == api.TkPat {
			name, _ := halves(f.Tok)
			bound := x.named[name]
			// They are counted before they are copied: a template may have them very often.
			x.grow(fragment.Size(bound), around+fragment.Depth(bound))
			out = append(out, copied(bound)...)
			continue
		}
		f.Tok.Mark = x.mark
		if f.Open == "" {
			x.grow(1, around)
		} else {
			x.grow(2, around+1)
		}
		f.Kids = x.fill(kids(f), around+1)
		out = append(out, f)
	}
	return out
}

// grow counts tokens that the result gets, and refuses what makes it too long, or too deep.
func (x *expansion) grow(tokens, depth int) {
	x.size += tokens
	if x.size > api.MaxTokens || depth > api.MaxDeep {
		x.refuse(api.ErrLarge)
	}
}
