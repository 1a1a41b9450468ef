package macro_test

import (
	"fmt"
	"slices"
	"strings"
	"testing"

	"skerry/api"
	"skerry/fragment"
	"skerry/macro"
)

// defs are the definitions of the document's examples.
const defs = "define macro while { while (?c:expression) ?b:body end } => { block (done) local method loop () if (?c) begin ?b end; loop() else done(#f) end end; loop() end } end macro while; " +
	"define macro twice { twice(?e:expression) } => { begin let x = ?e; x + x end } end; "

// showMacros writes macros as their names, and their rules in braces; a sign ! follows the name of a statement macro.
func showMacros(l []api.Macro) string {
	var out []string
	for _, m := range l {
		text := m.Name
		if m.Statement {
			text += "!"
		}
		for _, r := range m.Rules {
			text += fmt.Sprintf(" {%s => %s}", show(r.Pattern), show(r.Template))
		}
		out = append(out, text)
	}
	return strings.Join(out, "; ")
}

// define returns the macros that a text defines.
func define(t *testing.T, text string) []api.Macro {
	t.Helper()
	l, _, at, e := macro.Define(read(t, text))
	if e != api.OK {
		t.Fatalf("Define of %.100q = %d, %v", text, at, e)
	}
	return l
}

func TestP3_1Define(t *testing.T) {
	for _, x := range []struct{ text, macros, rest string }{
		{"", "", ""},
		{"x; y", "", "x ; y"},
		{"define macro f { f(?a:name) } => { ?a } end;", "f {?a:name => ?a}", ""},
		{"define macro f { f(?a:name) } => { ?a } end macro f;", "f {?a:name => ?a}", ""},
		{"define macro w { w ?a:name end } => { ?a } end;", "w! {?a:name => ?a}", ""},
		{"define macro f { f() } => { } end;", "f { => }", ""},
		{"define macro w { w end } => { } end;", "w! { => }", ""},
		{"a; define macro f { f() } => { } end; b define macro g { g() } => { x } end; f(g)", "f { => }; g { => x}", "a ; b f ‹( g›"},
		{"define macro f { f() } => { 0 } { f(1) } => { 2 } end;", "f { => 0} {1 => 2}", ""},
		{"define macro f { f() } => { 0 }; { f(1) } => { 2 } end;", "f { => 0} {1 => 2}", ""},
		{"define macro f { f() } => { 0 } { f(1) } => { 2 }; end;", "f { => 0} {1 => 2}", ""},
		{"define macro f { f() } => { 0 }; { f(1) } => { 2 }; end;", "f { => 0} {1 => 2}", ""},
		{"define macro w { w end } => { 0 } { w 1 end } => { 2 } end;", "w! { => 0} {1 => 2}", ""},
		{"define macro f { f(?a:name, (?b:body; [?c:token])) } => { (?c ?c) } end;", "f {?a:name , ‹( ?b:body ; ‹[ ?c:token›› => ‹( ?c ?c›}", ""},
		{"begin define macro f { f() } => { } end; end", "", "‹begin define ‹macro f ‹{ f ‹(›› => ‹{›› ;›"},
		{"(define macro f end)", "", "‹( define ‹macro f››"},
		{"macro f { f() } => { } end;", "", "‹macro f ‹{ f ‹(›› => ‹{›› ;"},
		{"define x macro f end;", "", "define x ‹macro f› ;"},
		{"define method f () end; define", "", "define ‹method f ‹(›› ; define"},
		{"define: macro f end;", "", "define: ‹macro f› ;"},
		{"define macro define { define() } => { } end;", "define { => }", ""},
		{"define macro while { while(x) } => { } end;", "while {x => }", ""},
	} {
		l := read(t, x.text)
		macros, rest, at, e := macro.Define(l)
		if showMacros(macros) != x.macros || show(rest) != x.rest || at != 0 || e != api.OK {
			t.Errorf("Define of %q = %s, %s, %d, %v; expected %s, %s", x.text, showMacros(macros), show(rest), at, e, x.macros, x.rest)
		}
		for _, m := range macros {
			if e := macro.Check(m); e != api.OK {
				t.Errorf("Check of %s = %v", showMacros([]api.Macro{m}), e)
			}
		}
		if len(macros) == 0 && !exactly(rest, l) {
			t.Errorf("Define of %q leaves %s", x.text, show(rest))
		}
	}
}

// TestP3_1DefineKeepsTokens: patterns, templates and what is left have the tokens that they had.
func TestP3_1DefineKeepsTokens(t *testing.T) {
	l := read(t, "a (define macro f { f(x) } => { [y] } end; z)")
	l = append(l[:1], l[1].Kids...)
	for i, f := range l {
		l[i].Tok.Mark = i + 1
		for j := range f.Kids {
			l[i].Kids[j].Tok.Mark = 10*i + j
		}
	}
	macros, rest, _, e := macro.Define(l)
	want := api.Macro{Name: "f", Rules: []api.MacroRule{{Pattern: l[2].Kids[1].Kids[1].Kids, Template: l[2].Kids[3].Kids}}}
	if e != api.OK || len(macros) != 1 || !exactly(macros[0].Rules[0].Pattern, want.Rules[0].Pattern) || !exactly(macros[0].Rules[0].Template, want.Rules[0].Template) {
		t.Errorf("Define = %v, %v; expected %v", macros, e, want)
	}
	if !exactly(rest, []api.Frag{l[0], l[4]}) {
		t.Errorf("Define leaves %v", rest)
	}
}

func TestP3_1DefineErrors(t *testing.T) {
	const f = "define macro f { f() } => { } end; "
	for _, x := range []struct {
		what, text string
		at         int
	}{
		{"no rule", "x; define macro f end;", 2},
		{"nothing at all", "define macro end;", 0},
		{"no sign behind it", "define macro f { f() } => { } end", 0},
		{"no sign behind it, but a comma", "define macro f { f() } => { } end, x;", 0},
		{"something ahead of the sign", "define macro f { f() } => { } end x;", 0},
		{"a dropped name too much", "define macro f { f() } => { } end f f;", 0},
		{"a group behind it", "define macro f { f() } => { } end (;)", 0},
		{"no name", "define macro { f() } => { } end;", 0},
		{"a number for a name", "define macro 1 { 1() } => { } end;", 0},
		{"a keyword for a name", "define macro f: { f:() } => { } end;", 0},
		{"a sign for a name", "define macro + { +() } => { } end;", 0},
		{"a group for a name", "define macro (f) { f() } => { } end;", 0},
		{"a qualified name", "define macro f@l { f@l() } => { } end;", 0},
		{"the name slot", "define macro slot { slot() } => { } end;", 0},
		{"the name if", "define macro if { if end } => { } end;", 0},
		{"something between name and rules", "define macro f x { f() } => { } end;", 0},
		{"a sign between name and rules", "define macro f; { f() } => { } end;", 0},
		{"half a rule", "define macro f { f() } end;", 0},
		{"two thirds of a rule", "define macro f { f() } => end;", 0},
		{"two thirds of a rule behind one", "define macro f { f() } => { } { f() } => end;", 0},
		{"a third of a rule behind one", "define macro f { f() } => { } { f() } end;", 0},
		{"no arrow", "define macro f { f() } { } end;", 0},
		{"an equals sign for an arrow", "define macro f { f() } = { } end;", 0},
		{"an arrow in a group", "define macro f { f() } (=>) { } end;", 0},
		{"two arrows", "define macro f { f() } => => { } end;", 0},
		{"parentheses for the pattern", "define macro f ( f() ) => { } end;", 0},
		{"brackets for the template", "define macro f { f() } => [ ] end;", 0},
		{"a token for the template", "define macro f { f() } => x end;", 0},
		{"a token for the pattern", "define macro f f => { } end;", 0},
		{"two signs behind a rule", "define macro f { f() } => { };; end;", 0},
		{"two signs between rules", "define macro f { f() } => { };; { f(x) } => { } end;", 0},
		{"a comma between rules", "define macro f { f() } => { }, { f(x) } => { } end;", 0},
		{"something behind the rules", "define macro f { f() } => { } x end;", 0},
		{"an empty pattern's braces", "define macro f { } => { } end;", 0},
		{"the name alone", "define macro f { f } => { } end;", 0},
		{"no name ahead of the parentheses", "define macro f { () } => { } end;", 0},
		{"another name", "define macro f { g() } => { } end;", 0},
		{"a keyword for the name", "define macro f { f:() } => { } end;", 0},
		{"brackets for parentheses", "define macro f { f[] } => { } end;", 0},
		{"something behind the parentheses", "define macro f { f() x } => { } end;", 0},
		{"something ahead of the name", "define macro f { x f() } => { } end;", 0},
		{"something between name and parentheses", "define macro f { f x () } => { } end;", 0},
		{"a token for the parentheses", "define macro f { f x } => { } end;", 0},
		{"something behind the group", "define macro w { w end } => { } { w end x } => { } end;", 0},
		{"something ahead of the group", "define macro w { w end } => { } { x w end } => { } end;", 0},
		{"another group", "define macro w { w end } => { } { begin end } => { } end;", 0},
		{"a group for the name, and parentheses", "define macro w { w end } => { } { w end () } => { } end;", 0},
		{"a group of another statement macro", "define macro v { v end } => { } end; define macro w { v end } => { } end;", 3},
		{"a name that is a variable in the pattern's call", "define macro f { ?f:name() } => { } end;", 0},
		{"a variable without a kind", "define macro f { f(?a) } => { } end;", 0},
		{"a template with a further variable", "define macro f { f(?a:name) } => { ?b } end;", 0},
		{"a template with a kind", "define macro f { f(?a:name) } => { ?a:name } end;", 0},
		{"a second rule that is not right", "define macro f { f() } => { } { f(?a) } => { } end;", 0},
		{"two with the same name", f + "x " + f, 4},
		{"one that is wrong behind one that is right", f + "; define macro g end;", 4},
		{"the first one of two that are wrong", "define macro a end; define macro b end;", 0},
		{"one that is wrong ahead of two with the same name", f + "define macro g end; " + f, 3},
		{"two with the same name ahead of one that is wrong", f + f + "define macro g end;", 3},
		{"many rules", "define macro f " + strings.Repeat("{ f() } => { } ", api.MaxRules+1) + "end;", 0},
		{"many macros", functions(api.MaxMacros) + "x; " + f, 3*api.MaxMacros + 2},
		{"more macros", functions(api.MaxMacros + 5), 3 * api.MaxMacros},
	} {
		l := read(t, x.text)
		macros, rest, at, e := macro.Define(l)
		if len(macros) != 0 || len(rest) != 0 || at != x.at || e != api.ErrMacro {
			t.Errorf("%s: Define = %s, %s, %d, %v; expected ErrMacro at %d", x.what, showMacros(macros), show(rest), at, e, x.at)
		}
		if l, y, at, e := macro.Expand(l); len(l) != 0 || len(y) != 0 || at != x.at || e != api.ErrMacro {
			t.Errorf("%s: Expand = %s, %v, %d, %v; expected ErrMacro at %d", x.what, show(l), y, at, e, x.at)
		}
	}
	statement, function := read(t, "define macro m { m end } => { } end;"), read(t, "define macro m { m() } => { } end;")
	if macros, rest, at, e := macro.Define(append(statement, function...)); len(macros) != 0 || len(rest) != 0 || at != 3 || e != api.ErrMacro {
		t.Errorf("Define of two sorts with the same name = %s, %s, %d, %v", showMacros(macros), show(rest), at, e)
	}
	testBuilt(t)
	wrong := "define macro f end; "
	for _, x := range []struct {
		what string
		l    []api.Frag
		e    api.Errno
	}{
		{"too deep", append(read(t, wrong), tower(101)...), api.ErrDeep},
		{"too long", append(read(t, wrong), row(api.MaxTokens)...), api.ErrLong},
		{"too deep and too long", append(row(api.MaxTokens+1), tower(101)...), api.ErrDeep},
		{"as deep as may be", tower(100), api.OK},
		{"as long as may be", row(api.MaxTokens), api.OK},
	} {
		macros, rest, at, e := macro.Define(x.l)
		if len(macros) != 0 || e == api.OK && !exactly(rest, x.l) || e != api.OK && len(rest) != 0 || at != 0 || e != x.e {
			t.Errorf("%s: Define = %s, %.50s, %d, %v; expected %v", x.what, showMacros(macros), show(rest), at, e, x.e)
		}
		if l, _, at, e := macro.Expand(x.l); e == api.OK && !exactly(l, x.l) || e != api.OK && len(l) != 0 || at != 0 || e != x.e {
			t.Errorf("%s: Expand = %.50s, %d, %v; expected %v", x.what, show(l), at, e, x.e)
		}
	}
	if l := define(t, functions(api.MaxMacros)); len(l) != api.MaxMacros {
		t.Errorf("Define of as many macros as may be = %d", len(l))
	}
	if l := define(t, "define macro f "+strings.Repeat("{ f() } => { } ", api.MaxRules)+"end;"); len(l) != 1 || len(l[0].Rules) != api.MaxRules {
		t.Errorf("Define of as many rules as may be = %s", showMacros(l))
	}
}

// testBuilt tests definitions that no text has.
func testBuilt(t *testing.T) {
	definition := func(kids ...api.Frag) []api.Frag {
		l := read(t, "define macro m end;")
		l[1].Kids = kids
		return l
	}
	name, group := read(t, "m")[0], read(t, "m x end", "m")[0]
	statement := read(t, "{ m x end } => { y }", "m")
	function := read(t, "{ m(x) } => { y }")
	for _, x := range []struct {
		what   string
		l      []api.Frag
		macros string
		e      api.Errno
	}{
		{"two rules of a statement macro", definition(slices.Concat([]api.Frag{name}, statement, statement)...), "m! {x => y} {x => y}", api.OK},
		{"two rules of a function macro", definition(slices.Concat([]api.Frag{name}, function, function)...), "m {x => y} {x => y}", api.OK},
		{"a rule of each sort", definition(slices.Concat([]api.Frag{name}, statement, function)...), "", api.ErrMacro},
		{"a rule of each sort, the other way round", definition(slices.Concat([]api.Frag{name}, function, statement)...), "", api.ErrMacro},
		{"a group for the name of a statement macro", definition(slices.Concat([]api.Frag{group}, statement)...), "", api.ErrMacro},
		{"a group for the name of a function macro", definition(slices.Concat([]api.Frag{group}, function)...), "", api.ErrMacro},
		{"a name ahead of parentheses that are no group", definition(slices.Concat([]api.Frag{name}, read(t, "{ m x } => { y }"))...), "", api.ErrMacro},
		{"a group of the word define", append(read(t, "define x end", "define"), definition(name)[1:]...), "", api.OK},
	} {
		macros, rest, at, e := macro.Define(x.l)
		if showMacros(macros) != x.macros || at != 0 || e != x.e || x.macros == "" && e == api.OK && !exactly(rest, x.l) {
			t.Errorf("%s: Define = %s, %s, %d, %v; expected %s, %v", x.what, showMacros(macros), show(rest), at, e, x.macros, x.e)
		}
	}
}

// functions returns the definitions of n function macros.
func functions(n int) string {
	text := ""
	for i := range n {
		text += fmt.Sprintf("define macro f%d { f%d() } => { } end; ", i, i)
	}
	return text
}

// tower returns n groups within each other, the innermost one with kids.
func tower(n int, kids ...api.Frag) []api.Frag {
	for range n {
		kids = []api.Frag{{Tok: api.Token{Kind: api.TkSign, Text: "("}, Open: "(", Kids: kids}}
	}
	return kids
}

// row returns n tokens.
func row(n int) []api.Frag {
	return slices.Repeat([]api.Frag{{Tok: api.Token{Kind: api.TkName, Text: "x"}}}, n)
}

// variables returns the texts of n variables of a kind.
func variables(n int, kind string) string {
	text := ""
	for i := range n {
		text += fmt.Sprintf("?v%d:%s ", i, kind)
	}
	return text
}

// odd are fragments that belong neither into a pattern nor into a template.
func odd() map[string]api.Frag {
	return map[string]api.Frag{
		"a token that is not valid":               {},
		"a group whose token is not valid":        {Open: "("},
		"a token with another kind":               {Tok: api.Token{Kind: api.TkName, Text: "+"}},
		"a token with a number":                   {Tok: api.Token{Kind: api.TkName, Text: "x", Num: 1}},
		"a token with a negative mark":            {Tok: api.Token{Kind: api.TkName, Text: "x", Mark: -1}},
		"a group with a negative place":           {Tok: api.Token{Kind: api.TkSign, Text: "(", At: -1}, Open: "("},
		"a variable that is not valid":            {Tok: api.Token{Kind: api.TkPat, Text: "?"}},
		"a variable without a text":               {Tok: api.Token{Kind: api.TkPat}},
		"a variable with a negative mark":         {Tok: api.Token{Kind: api.TkPat, Text: "?a", Mark: -1}},
		"a kind, with a negative mark":            {Tok: api.Token{Kind: api.TkPat, Text: "?k:name", Mark: -1}},
		"a variable that begins a group":          {Tok: api.Token{Kind: api.TkPat, Text: "?a"}, Open: "?a"},
		"a variable with a kind begins a group":   {Tok: api.Token{Kind: api.TkPat, Text: "?k:name"}, Open: "?k:name"},
		"a group with a token that is not valid":  {Tok: api.Token{Kind: api.TkSign, Text: "("}, Open: "(", Kids: []api.Frag{{}}},
		"a group with a variable that is unknown": {Tok: api.Token{Kind: api.TkSign, Text: "("}, Open: "(", Kids: []api.Frag{{Tok: api.Token{Kind: api.TkPat, Text: "?k"}}}},
	}
}

func TestP3_1Check(t *testing.T) {
	rule := func(pattern, template string) []api.MacroRule {
		return []api.MacroRule{{Pattern: read(t, pattern, "w"), Template: read(t, template, "w")}}
	}
	frags := func(pattern, template []api.Frag) []api.MacroRule {
		return []api.MacroRule{{Pattern: pattern, Template: template}}
	}
	type check struct {
		what  string
		name  string
		rules []api.MacroRule
		want  api.Errno
	}
	all := []check{
		{"nothing", "m", rule("", ""), api.OK},
		{"no rule", "m", nil, api.ErrMacro},
		{"as many rules as may be", "m", slices.Repeat(rule("", ""), api.MaxRules), api.OK},
		{"a rule more", "m", slices.Repeat(rule("", ""), api.MaxRules+1), api.ErrMacro},
		{"all kinds", "m", rule("?a:name ?b:token ?c:expression ; ?d:body", "?d ?c ?b ?a ?a"), api.OK},
		{"another kind", "m", rule("?a:names", ""), api.ErrMacro},
		{"no kind", "m", rule("?a", ""), api.ErrMacro},
		{"a kind that is no kind, in a group", "m", rule("(?a:expr)", ""), api.ErrMacro},
		{"as many variables as may be", "m", rule(variables(api.MaxArgs, "name"), ""), api.OK},
		{"a variable more", "m", rule(variables(api.MaxArgs+1, "name"), ""), api.ErrMacro},
		{"a variable more in a group", "m", rule(variables(api.MaxArgs, "name")+"(?x:name)", ""), api.ErrMacro},
		{"two variables with the same name", "m", rule("?a:name ?a:name", ""), api.ErrMacro},
		{"two variables with the same name and other kinds", "m", rule("?a:name ?a:token", ""), api.ErrMacro},
		{"two variables with the same name, one in a group", "m", rule("?a:name (?a:token)", ""), api.ErrMacro},
		{"two variables with the same name in two groups", "m", rule("(?a:name) (?a:token)", ""), api.ErrMacro},
		{"an expression at the end", "m", rule("?a:expression", ""), api.OK},
		{"an expression at the end of a group", "m", rule("(?a:expression) (?b:expression) ?c:name", ""), api.OK},
		{"an expression ahead of a token", "m", rule("?a:expression x", ""), api.OK},
		{"an expression ahead of a sign", "m", rule("?a:expression + ?b:body , ?c:body", ""), api.OK},
		{"an expression ahead of a variable", "m", rule("?a:expression ?b:name", ""), api.ErrMacro},
		{"an expression ahead of a group", "m", rule("?a:expression (x)", ""), api.ErrMacro},
		{"an expression ahead of a group of a word", "m", rule("?a:expression begin end", ""), api.ErrMacro},
		{"an expression ahead of a variable in a group", "m", rule("x (?a:expression ?b:name)", ""), api.ErrMacro},
		{"a body at the end", "m", rule("?a:body", ""), api.OK},
		{"a body ahead of a token", "m", rule("?a:body x", ""), api.OK},
		{"a body ahead of a variable", "m", rule("?a:body ?b:body", ""), api.ErrMacro},
		{"a body ahead of a group", "m", rule("?a:body [x]", ""), api.ErrMacro},
		{"a name ahead of a variable and a token ahead of a group", "m", rule("?a:name ?b:token ?c:name (x)", ""), api.OK},
		{"a template with a variable in a group", "m", rule("(?a:name)", "x [?a begin ?a end]"), api.OK},
		{"a template with an unknown variable", "m", rule("?a:name", "?b"), api.ErrMacro},
		{"a template with an unknown variable in a group", "m", rule("?a:name", "([?b])"), api.ErrMacro},
		{"a template with a kind", "m", rule("?a:name", "?a:name"), api.ErrMacro},
		{"a template with a variable of another rule", "m", append(rule("?a:name", ""), rule("", "?a")...), api.ErrMacro},
		{"a second rule with the same variable", "m", append(rule("?a:name", "?a"), rule("?a:token", "?a ?a")...), api.OK},
		{"a second rule that is wrong", "m", append(rule("", ""), rule("?a", "")...), api.ErrMacro},
		{"calls in pattern and template", "m", rule("m() w x end", "m(m()) w w end end"), api.OK},
		{"a deep pattern", "m", frags(tower(100), nil), api.OK},
		{"a pattern that is too deep", "m", frags(tower(101), nil), api.ErrMacro},
		{"a deep template", "m", frags(nil, tower(100)), api.OK},
		{"a template that is too deep", "m", frags(nil, tower(101)), api.ErrMacro},
		{"a long pattern", "m", frags(row(api.MaxTokens), nil), api.OK},
		{"a pattern that is too long", "m", frags(row(api.MaxTokens+1), nil), api.ErrMacro},
		{"a long template", "m", frags(nil, row(api.MaxTokens)), api.OK},
		{"a template that is too long", "m", frags(nil, row(api.MaxTokens+1)), api.ErrMacro},
	}
	for what, f := range odd() {
		all = append(all, check{what + " (pattern)", "m", frags([]api.Frag{f}, nil), api.ErrMacro})
		all = append(all, check{what + " (template)", "m", frags(read(t, "?a:name"), []api.Frag{f}), api.ErrMacro})
	}
	for _, s := range []string{"m", "<m>", "m-2", "define", "slots", "x+1", strings.Repeat("m", api.MaxName)} {
		all = append(all, check{"the name " + s, s, rule("", ""), api.OK})
	}
	for _, s := range append(fragment.Words(), "", "end", "slot", "m@l", "m:", "?m", "1", "#t", "+", "(", "M", "a b", " a", "a ", strings.Repeat("m", api.MaxName+1)) {
		all = append(all, check{"the name " + s, s, rule("", ""), api.ErrMacro})
	}
	for _, x := range all {
		for _, statement := range []bool{false, true} {
			m := api.Macro{Name: x.name, Statement: statement, Rules: x.rules}
			if e := macro.Check(m); e != x.want {
				t.Errorf("%s: Check = %v; expected %v", x.what, e, x.want)
			}
			l, y, is, e := macro.Once([]api.Macro{m}, nil, 1)
			if len(l) != 0 || is || y.Macro != "" || e != x.want {
				t.Errorf("%s: Once = %v, %v, %v, %v", x.what, l, y, is, e)
			}
		}
	}
}

// TestP3_1TakesMacros: the errors of macros, of functions that take them; those of fragments come first.
func TestP3_1TakesMacros(t *testing.T) {
	some := define(t, functions(api.MaxMacros))
	wrong := []api.Macro{{Name: "m"}}
	for _, x := range []struct {
		what   string
		macros []api.Macro
		l      []api.Frag
		e      api.Errno
	}{
		{"no macro", nil, nil, api.OK},
		{"as many as may be", some, read(t, "x"), api.OK},
		{"one more", append(slices.Clone(some), define(t, defs)[1]), nil, api.ErrMacro},
		{"one that is wrong", append(slices.Clone(some[:2]), wrong...), nil, api.ErrMacro},
		{"two with the same name", append(slices.Clone(some[:2]), some[0]), nil, api.ErrMacro},
		{"two with the same name, of two sorts", []api.Macro{some[0], {Name: "f0", Statement: true, Rules: some[0].Rules}}, nil, api.ErrMacro},
		{"too deep a list", wrong, tower(101), api.ErrDeep},
		{"too long a list", wrong, row(api.MaxTokens + 1), api.ErrLong},
		{"too deep and too long a list", wrong, append(row(api.MaxTokens+1), tower(101)...), api.ErrDeep},
		{"a list as deep as may be", some, tower(100), api.OK},
		{"a list as long as may be", some, row(api.MaxTokens), api.OK},
	} {
		zero := func(what string, is bool, e api.Errno) {
			t.Helper()
			if !is || e != x.e {
				t.Errorf("%s: %s = %v; expected %v", x.what, what, e, x.e)
			}
		}
		kept := func(l []api.Frag, e api.Errno) bool {
			return e == api.OK && exactly(l, x.l) || e != api.OK && len(l) == 0
		}
		l, y, is, e := macro.Once(x.macros, x.l, 1)
		zero("Once", kept(l, e) && y.Macro == "" && y.Mark == 0 && !is, e)
		if x.e != api.OK {
			l, y, is, e = macro.Once(x.macros, x.l, -1)
			zero("Once with a negative mark", kept(l, e) && y.Macro == "" && !is, e)
		}
		l, all, at, e := macro.With(x.macros, x.l)
		zero("With", kept(l, e) && len(all) == 0 && at == 0, e)
		l, at, e = macro.Replay(x.macros, x.l, nil)
		zero("Replay", kept(l, e) && at == 0, e)
		if x.e != api.OK {
			l, at, e = macro.Replay(x.macros, x.l, make([]api.Expansion, api.MaxMarks+1))
			zero("Replay of many", kept(l, e) && at == 0, e)
		}
		if n := macro.Calls(x.macros, x.l); n != 0 {
			t.Errorf("%s: Calls = %d", x.what, n)
		}
		if l := macro.Unmark(x.l); x.e == api.ErrDeep && len(l) != 0 || x.e != api.ErrDeep && !exactly(l, x.l) {
			t.Errorf("%s: Unmark = %.50s", x.what, show(l))
		}
	}
	if n := macro.Calls([]api.Macro{some[0], {Name: "m"}}, read(t, "f0()")); n != 0 {
		t.Errorf("Calls with a wrong macro = %d", n)
	}
	if n := macro.Calls(some, append(read(t, "f0()"), tower(101)...)); n != 0 {
		t.Errorf("Calls of a deep list = %d", n)
	}
}
