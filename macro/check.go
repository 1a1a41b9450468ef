package macro

import (
	"skerry/api"
	"skerry/lex"
)

// checkMark refuses a mark that is negative.
func checkMark(mark int) {
	if mark < 0 {
		refuse(api.ErrArg)
	}
}

// checkMacros refuses macros of which one is not right, and returns them by their names.
func checkMacros(macros []api.Macro) map[string]api.Macro {
	if len(macros) > api.MaxMacros {
		refuse(api.ErrMacro)
	}
	named := map[string]api.Macro{}
	for _, m := range macros {
		checkMacro(m)
		if _, twice := named[m.Name]; twice {
			refuse(api.ErrMacro)
		}
		named[m.Name] = m
	}
	return named
}

// checkMacro refuses a macro that is not right.
func checkMacro(m api.Macro) {
	if !mayName(m.Name) || len(m.Rules) == 0 || len(m.Rules) > api.MaxRules {
		refuse(api.ErrMacro)
	}
	for _, r := range m.Rules {
		if limits(r.Pattern) != api.OK || limits(r.Template) != api.OK {
			refuse(api.ErrMacro)
		}
		names := variables(r.Pattern)
		checkTemplate(r.Template, func(name string) bool { return names[name] })
	}
}

// variables returns the names of the variables of a pattern, and refuses what is none.
func variables(pattern []api.Frag) map[string]bool {
	names := map[string]bool{}
	var pass func(l []api.Frag)
	pass = func(l []api.Frag) {
		for i, f := range l {
			if f.Tok.Kind == api.TkPat {
				name, kind := lex.Pattern(f.Tok)
				if f.Open != "" || names[name] || len(names) == api.MaxArgs || !mayStand(kind, l[i+1:]) {
					refuse(api.ErrMacro)
				}
				names[name] = true
				continue
			}
			checkToken(f.Tok)
			pass(kids(f))
		}
	}
	pass(pattern)
	return names
}

// mayStand reports whether a variable of a kind may have this behind it in its list.
func mayStand(kind string, behind []api.Frag) bool {
	switch kind {
	case "name", "token":
		return true
	case "expression", "body":
		return len(behind) == 0 || behind[0].Open == "" && behind[0].Tok.Kind != api.TkPat
	}
	return false
}

// checkTemplate refuses what is no template for variables, of which has reports what their names are.
func checkTemplate(l []api.Frag, has func(name string) bool) {
	for _, f := range l {
		if f.Tok.Kind == api.TkPat {
			name, kind := lex.Pattern(f.Tok)
			if f.Open != "" || name == "" || kind != "" || !has(name) {
				refuse(api.ErrMacro)
			}
			continue
		}
		checkToken(f.Tok)
		checkTemplate(kids(f), has)
	}
}

// checkToken refuses a token that is not valid.
func checkToken(t api.Token) {
	if lex.Check(t) != api.OK {
		refuse(api.ErrMacro)
	}
}
