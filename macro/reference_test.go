package macro_test

import (
	"fmt"
	"math/rand"
	"slices"
	"testing"

	"skerry/api"
	"skerry/fragment"
	"skerry/lex"
	"skerry/macro"
)

// slowMatch is Match of a pattern that is right, fragment by fragment.
func slowMatch(pattern, l []api.Frag) ([]api.MacroBind, bool) {
	if len(pattern) == 0 {
		return nil, len(l) == 0
	}
	first, n, own := pattern[0], 1, []api.MacroBind(nil)
	name, kind := lex.Pattern(first.Tok)
	if kind == "expression" || kind == "body" {
		n = slices.IndexFunc(l, func(f api.Frag) bool {
			stop := len(pattern) > 1 && fragment.Same([]api.Frag{f}, pattern[1:2])
			sign := f.Open == "" && slices.Contains([]string{",", ";", "=>"}, f.Tok.Text)
			return stop || sign && kind == "expression"
		})
		if n < 0 {
			n = len(l)
		}
	}
	if n > len(l) || n == 0 && kind == "expression" {
		return nil, false
	}
	switch {
	case kind == "name" && (l[0].Open != "" || !lex.IsName(l[0].Tok.Text)), kind == "token" && l[0].Open != "":
		return nil, false
	case kind != "":
		own = []api.MacroBind{{Name: name, Frags: l[:n]}}
	case first.Open == "" && !fragment.Same(l[:1], pattern[:1]), first.Open != l[0].Open:
		return nil, false
	case first.Open != "":
		within, is := slowMatch(first.Kids, l[0].Kids)
		if !is {
			return nil, false
		}
		own = within
	}
	rest, is := slowMatch(pattern[1:], l[n:])
	if !is {
		return nil, false
	}
	return slices.Concat(own, rest), true
}

// slowFill is Fill of a template that is right.
func slowFill(template []api.Frag, binds []api.MacroBind, mark int) []api.Frag {
	var out []api.Frag
	for _, f := range template {
		i := slices.IndexFunc(binds, func(b api.MacroBind) bool { return f.Tok.Text == "?"+b.Name })
		if i >= 0 {
			out = append(out, binds[i].Frags...)
			continue
		}
		f.Tok.Mark = mark
		f.Kids = slowFill(f.Kids, binds, mark)
		out = append(out, f)
	}
	return out
}

// paths returns all paths in fragments, in the order of their first tokens.
func paths(l []api.Frag) [][]int {
	var out [][]int
	for i, f := range l {
		out = append(out, []int{i})
		for _, p := range paths(f.Kids) {
			out = append(out, append([]int{i}, p...))
		}
	}
	return out
}

// slowCall returns the macro that is called at a path, its fragments, and the path behind the call's first token, if this is not its group.
func slowCall(macros []api.Macro, l []api.Frag, path []int) (m api.Macro, args []api.Frag, behind []int, is bool) {
	f, _ := fragment.At(l, path)
	next := slices.Clone(path)
	next[len(next)-1]++
	group, _ := fragment.At(l, next)
	for _, m := range macros {
		switch {
		case m.Statement && f.Open == m.Name:
			return m, f.Kids, nil, true
		case !m.Statement && f.Open == "" && f.Tok.Kind == api.TkName && f.Tok.Text == m.Name && group.Open == "(":
			return m, group.Kids, next, true
		}
	}
	return m, nil, nil, false
}

// slowOnce is Once for macros and a list that are right.
func slowOnce(macros []api.Macro, l []api.Frag, mark int) ([]api.Frag, api.Expansion, bool, api.Errno) {
	for _, p := range paths(l) {
		m, args, behind, is := slowCall(macros, l, p)
		if !is {
			continue
		}
		f, _ := fragment.At(l, p)
		f.Tok.At = -1
		found, _ := fragment.Put(l, p, []api.Frag{f})
		x := api.Expansion{Macro: m.Name, Mark: mark, At: slices.IndexFunc(fragment.Flat(found), func(t api.Token) bool { return t.At == -1 })}
		for i, r := range m.Rules {
			binds, is := slowMatch(r.Pattern, args)
			if !is {
				continue
			}
			now := l
			if behind != nil {
				now, _ = fragment.Put(now, behind, nil)
			}
			now, e := fragment.Put(now, p, slowFill(r.Template, binds, mark))
			if e == api.OK {
				x.Rule, x.Binds = i, binds
			}
			return now, x, true, e
		}
		return nil, x, true, api.ErrMatch
	}
	return l, api.Expansion{}, false, api.OK
}

// slowWith is With for macros and a list that are right.
func slowWith(macros []api.Macro, l []api.Frag) ([]api.Frag, []api.Expansion, int, api.Errno) {
	var all []api.Expansion
	for mark := 1; ; mark++ {
		now, x, is, e := slowOnce(macros, l, mark)
		switch {
		case !is:
			return l, all, 0, api.OK
		case mark > api.MaxMarks:
			return nil, nil, 0, api.ErrMarks
		case e != api.OK:
			return nil, nil, x.At, e
		}
		l = now
		all = append(all, x)
	}
}

// slowCalls is Calls for macros and a list that are right.
func slowCalls(macros []api.Macro, l []api.Frag) int {
	n := 0
	for _, p := range paths(l) {
		if _, _, _, is := slowCall(macros, l, p); is {
			n++
		}
	}
	return n
}

// maker makes random macros, and lists with calls of them.
type maker struct {
	*rand.Rand
	macros []api.Macro
	places int // the At of the next token
}

func (r *maker) pick(l ...string) string { return l[r.Intn(len(l))] }

// token returns a token of a list.
func (r *maker) token() api.Frag {
	text := r.pick("a", "a", "b", "c", "x", "x", "y", "1", "2", "k:", "#t", ",", ";", "=>", "+", "=", "f", "g")
	r.places++
	t := api.Token{Kind: lex.Kind(text), Text: text, At: r.places}
	if t.Kind == api.TkNum {
		t.Num, _ = lex.Number(text)
	}
	return api.Frag{Tok: t}
}

// group returns a group.
func (r *maker) group(open string, kids []api.Frag) api.Frag {
	r.places++
	return api.Frag{Tok: api.Token{Kind: lex.Kind(open), Text: open, At: r.places}, Open: open, Kids: kids}
}

// variable returns a variable of a pattern, or of a template.
func (r *maker) variable(text string) api.Frag {
	r.places++
	return api.Frag{Tok: api.Token{Kind: api.TkPat, Text: text, At: r.places}}
}

// list returns a list with tokens, groups and calls.
func (r *maker) list(depth int) []api.Frag {
	var out []api.Frag
	for range r.Intn(5) {
		switch k := r.Intn(10); {
		case k < 5 || depth == 0:
			out = append(out, r.token())
		case k < 6:
			out = append(out, r.group(r.pick("(", "[", "{", "begin"), r.list(depth-1)))
		default:
			out = append(out, r.call(depth-1)...)
		}
	}
	return out
}

// call returns a call that most often matches a rule.
func (r *maker) call(depth int) []api.Frag {
	if len(r.macros) == 0 {
		return r.list(depth)
	}
	m := r.macros[r.Intn(len(r.macros))]
	kids := r.instance(m.Rules[r.Intn(len(m.Rules))].Pattern, depth)
	if r.Intn(12) == 0 {
		kids = r.list(depth)
	}
	if m.Statement {
		return []api.Frag{r.group(m.Name, kids)}
	}
	return []api.Frag{{Tok: api.Token{Kind: api.TkName, Text: m.Name, At: r.places}}, r.group("(", kids)}
}

// instance returns what most often matches a pattern.
func (r *maker) instance(pattern []api.Frag, depth int) []api.Frag {
	var out []api.Frag
	for _, f := range pattern {
		switch _, kind := lex.Pattern(f.Tok); {
		case f.Open != "":
			out = append(out, r.group(f.Open, r.instance(f.Kids, depth)))
		case kind == "name":
			r.places++
			out = append(out, api.Frag{Tok: api.Token{Kind: api.TkName, Text: r.pick("a", "x", "y"), At: r.places}})
		case kind == "token":
			out = append(out, r.token())
		case kind != "" && depth > 0:
			out = append(out, r.list(depth-1)...)
		case kind != "":
			out = append(out, r.token())
		default:
			r.places++
			f.Tok.At = r.places
			out = append(out, f)
		}
	}
	return out
}

// pattern returns a pattern, and adds its variables.
func (r *maker) pattern(depth int, names *[]string) []api.Frag {
	var out []api.Frag
	for range r.Intn(4) {
		switch k := r.Intn(10); {
		case k < 3:
			out = append(out, r.token())
		case k < 5 && depth > 0:
			out = append(out, r.group(r.pick("(", "[", "begin"), r.pattern(depth-1, names)))
		default:
			name := fmt.Sprintf("v%d", len(*names))
			*names = append(*names, name)
			kind := r.pick("name", "token", "expression", "body")
			out = append(out, r.variable("?"+name+":"+kind))
			if kind == "expression" || kind == "body" {
				if r.Intn(2) == 0 {
					return out
				}
				out = append(out, r.token())
			}
		}
	}
	return out
}

// template returns a template with variables and calls of some macros.
func (r *maker) template(depth int, names []string, calls []string) []api.Frag {
	var out []api.Frag
	for range r.Intn(5) {
		switch k := r.Intn(10); {
		case k < 4 && len(names) > 0:
			out = append(out, r.variable("?"+names[r.Intn(len(names))]))
		case k < 6 && depth > 0:
			out = append(out, r.group(r.pick("(", "[", "begin"), r.template(depth-1, names, calls)))
		case k < 7 && depth > 0 && len(calls) > 0:
			name := r.pick(calls...)
			if name == "w" || name == "u" {
				out = append(out, r.group(name, r.template(depth-1, names, calls)))
			} else {
				r.places++
				out = append(out, api.Frag{Tok: api.Token{Kind: api.TkName, Text: name, At: r.places}}, r.group("(", r.template(depth-1, names, calls)))
			}
		default:
			out = append(out, r.token())
		}
	}
	return out
}

// newMaker returns a maker with macros, whose templates call others in a way that mostly comes to an end.
func newMaker(rnd *rand.Rand) *maker {
	r := &maker{Rand: rnd}
	names := []string{"f", "g", "w", "u"}
	for i, name := range names {
		if rnd.Intn(5) == 0 {
			continue
		}
		calls := names[i+1:]
		if rnd.Intn(20) == 0 {
			calls = names
		}
		m := api.Macro{Name: name, Statement: i > 1}
		for range 1 + rnd.Intn(3) {
			var variables []string
			pattern := r.pattern(2, &variables)
			m.Rules = append(m.Rules, api.MacroRule{Pattern: pattern, Template: r.template(2, variables, calls)})
		}
		if rnd.Intn(2) == 0 { // a rule that takes everything
			m.Rules = append(m.Rules, api.MacroRule{Pattern: []api.Frag{r.variable("?all:body")}, Template: r.template(1, []string{"all"}, calls)})
		}
		r.macros = append(r.macros, m)
	}
	return r
}

// equalExpansions reports whether expansions are equal, nil and empty lists being the same.
func equalExpansions(a, b []api.Expansion) bool {
	return slices.EqualFunc(a, b, func(x, y api.Expansion) bool {
		return x.Macro == y.Macro && x.Rule == y.Rule && x.Mark == y.Mark && x.At == y.At && equalBinds(x.Binds, y.Binds)
	})
}

func equalBinds(a, b []api.MacroBind) bool {
	return slices.EqualFunc(a, b, func(x, y api.MacroBind) bool { return x.Name == y.Name && exactly(x.Frags, y.Frags) })
}

func TestP3_1MatchRandom(t *testing.T) {
	rnd := rand.New(rand.NewSource(2))
	found := map[bool]int{}
	for range 20000 {
		r := &maker{Rand: rnd}
		var names []string
		pattern := r.pattern(3, &names)
		l := r.instance(pattern, 2)
		switch rnd.Intn(4) {
		case 0:
			l = append(l, r.list(1)...)
		case 1:
			l = r.list(2)
		}
		binds, is, e := macro.Match(pattern, l)
		want, wantIs := slowMatch(pattern, l)
		if e != api.OK || is != wantIs || !equalBinds(binds, want) {
			t.Fatalf("Match of %s and %s = %s, %v, %v; expected %s, %v", show(pattern), show(l), showBinds(binds), is, e, showBinds(want), wantIs)
		}
		found[is]++
	}
	if found[true] < 4000 || found[false] < 4000 {
		t.Errorf("so many did match, and did not: %v", found)
	}
}

func TestP3_1ExpandRandom(t *testing.T) {
	rnd := rand.New(rand.NewSource(3))
	found := map[api.Errno]int{}
	steps := 0
	for range 3000 {
		r := newMaker(rnd)
		l := r.list(3)
		if n, want := macro.Calls(r.macros, l), slowCalls(r.macros, l); n != want {
			t.Fatalf("Calls of %s, with %s, = %d; expected %d", show(l), showMacros(r.macros), n, want)
		}
		mark := rnd.Intn(3)
		now, x, is, e := macro.Once(r.macros, l, mark)
		want, wantX, wantIs, wantErr := slowOnce(r.macros, l, mark)
		if !exactly(now, want) || !equalExpansions([]api.Expansion{x}, []api.Expansion{wantX}) || is != wantIs || e != wantErr {
			t.Fatalf("Once of %s, with %s, = %s, %s, %v, %v; expected %s, %s, %v, %v", show(l), showMacros(r.macros), show(now), showExpansion(x), is, e, show(want), showExpansion(wantX), wantIs, wantErr)
		}
		now, all, at, e := macro.With(r.macros, l)
		found[e]++
		if e == api.ErrMarks || e == api.ErrLarge { // they take long
			continue
		}
		want, wantAll, wantAt, wantErr := slowWith(r.macros, l)
		if !exactly(now, want) || !equalExpansions(all, wantAll) || at != wantAt || e != wantErr {
			t.Fatalf("With of %s, with %s, = %s, %s, %d, %v; expected %s, %s, %d, %v", show(l), showMacros(r.macros), show(now), showExpansions(all), at, e, show(want), showExpansions(wantAll), wantAt, wantErr)
		}
		steps += len(all)
	}
	if found[api.OK] < 1000 || found[api.ErrMatch] < 100 || steps < 3000 {
		t.Errorf("there were %d expansions, and so many results: %v", steps, found)
	}
}
