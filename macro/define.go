package macro

import (
	"skerry/api"
	"skerry/fragment"
	"skerry/lex"
)

// length is how many fragments a definition has (define, a group macro, ;), and a rule (a group {, =>, a group {).
const length = 3

// mayName reports whether a macro may have a name.
func mayName(text string) bool {
	return lex.IsPlain(text) && !among(text, "end", "slot") && !among(text, fragment.Words()...)
}

// statements reports for each token whether it is the name of a statement macro where this is defined: behind it the first braces end with the name end.
func statements(l []api.Token) []bool {
	is := make([]bool, len(l))
	var waiting []int // names behind which there has been no brace so far
	var open [][]int  // for each open brace the names whose first one it is
	for i, t := range l {
		switch {
		case alike(t, sign("{")):
			open = append(open, waiting)
			waiting = nil
		case alike(t, sign("}")):
			waiting = nil
			if len(open) == 0 {
				continue
			}
			inner := len(open) - 1
			for _, at := range open[inner] {
				is[at] = alike(l[i-1], word("end"))
			}
			open = open[:inner]
		case i > 1 && alike(l[i-2], word("define")) && alike(l[i-1], word("macro")) && t.Kind == api.TkName && mayName(t.Text):
			waiting = append(waiting, i)
		}
	}
	return is
}

// begins reports whether at the beginning of a list there has to be a definition.
func begins(l []api.Frag) bool {
	return len(l) > 1 && isToken(l[0], word("define")) && l[1].Open == "macro"
}

// definition returns the macro that is defined at the beginning of a list; one that is not right, if there is no definition.
func definition(l []api.Frag) api.Macro {
	if len(l) < length || !isToken(l[2], sign(";")) {
		return api.Macro{}
	}
	left := l[1].Kids
	if len(left) == 0 || left[0].Open != "" {
		return api.Macro{}
	}
	m := api.Macro{Name: left[0].Tok.Text}
	for left = left[1:]; len(left) > 0; {
		r, statement, ok := rule(m.Name, left)
		if !ok || len(m.Rules) > 0 && statement != m.Statement {
			return api.Macro{}
		}
		m.Statement = statement
		m.Rules = append(m.Rules, r)
		left = left[length:]
		if len(left) > 0 && isToken(left[0], sign(";")) {
			left = left[1:]
		}
	}
	return m
}

// rule returns the rule of a macro at the beginning of a list, and whether it is one of a statement macro.
func rule(macro string, l []api.Frag) (r api.MacroRule, statement, ok bool) {
	if len(l) < length || l[0].Open != "{" || !isToken(l[1], sign("=>")) || l[2].Open != "{" {
		return r, false, false
	}
	call := l[0].Kids
	switch {
	case len(call) == 1 && call[0].Open == macro:
		r.Pattern, statement = copied(call[0].Kids), true
	case len(call) == 2 && isToken(call[0], word(macro)) && call[1].Open == "(":
		r.Pattern = copied(call[1].Kids)
	default:
		return r, false, false
	}
	r.Template = copied(l[2].Kids)
	return r, statement, true
}
