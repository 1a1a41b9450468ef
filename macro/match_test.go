package macro_test

import (
	"math"
	"slices"
	"strings"
	"testing"

	"skerry/api"
	"skerry/fragment"
	"skerry/macro"
)

// showBinds writes bindings, with a comma between two of them.
func showBinds(l []api.MacroBind) string {
	var out []string
	for _, b := range l {
		out = append(out, strings.TrimSpace(b.Name+": "+show(b.Frags)))
	}
	return strings.Join(out, ", ")
}

func TestP3_1Match(t *testing.T) {
	const no = "no"
	for _, x := range []struct{ pattern, text, want string }{
		{"", "", ""},
		{"", "x", no},
		{"", "()", no},
		{"x", "x", ""},
		{"x", "", no},
		{"x", "y", no},
		{"x", "x x", no},
		{"x y", "x", no},
		{"x", "x:", no},
		{"x", "(x)", no},
		{"x", "x ()", no},
		{"1 #t + x: begin end", "1 #t + x: begin end", ""},
		{"1", "2", no},
		{"1", "-1", no},
		{"#t", "#f", no},
		{"(x)", "(x)", ""},
		{"(x)", "[x]", no},
		{"(x)", "{x}", no},
		{"(x)", "begin x end", no},
		{"(x)", "x", no},
		{"(x)", "", no},
		{"(x)", "(x) x", no},
		{"(x)", "(x x)", no},
		{"(x)", "()", no},
		{"(x)", "((x))", no},
		{"()", "(x)", no},
		{"w x end", "w x end", ""},
		{"w x end", "begin x end", no},
		{"w x end", "w end", no},
		{"[(x) y] z", "[(x) y] z", ""},
		{"[(x) y] z", "[(y) x] z", no},

		{"?a:name", "x", "a: x"},
		{"?a:name", "", no},
		{"?a:name", "x y", no},
		{"?a:name", "1", no},
		{"?a:name", "x:", no},
		{"?a:name", "+", no},
		{"?a:name", "#t", no},
		{"?a:name", "?x", no},
		{"?a:name", "(x)", no},
		{"?a:name", "begin end", no},
		{"?a:name", "w end", no},
		{"?a:name", "x@l", "a: x@l"},
		{"?a:token", "x", "a: x"},
		{"?a:token", "1", "a: 1"},
		{"?a:token", "x:", "a: x:"},
		{"?a:token", ";", "a: ;"},
		{"?a:token", "#t", "a: #t"},
		{"?a:token", "?x", "a: ?x"},
		{"?a:token", "?x:name", "a: ?x:name"},
		{"?a:token", "", no},
		{"?a:token", "x y", no},
		{"?a:token", "(x)", no},
		{"?a:token", "begin end", no},
		{"?b:token ?a:name", "1 x", "b: 1, a: x"},
		{"?b:token (?a:name) ?c:token", "1 (x) 2", "b: 1, a: x, c: 2"},
		{"?b:token (?a:name) ?c:token", "1 x 2", no},

		{"?a:expression", "x", "a: x"},
		{"?a:expression", "f(x, y; z) + [1] begin x; y end", "a: f ‹( x , y ; z› + ‹[ 1› ‹begin x ; y›"},
		{"?a:expression", "", no},
		{"?a:expression", ";", no},
		{"?a:expression", "x ;", no},
		{"?a:expression", "x , y", no},
		{"?a:expression", "x => y", no},
		{"?a:expression", "x = y == z := u :: v . z <= 1", "a: x = y == z := u :: v . z <= 1"},
		{"?a:expression ;", "x ;", "a: x"},
		{"?a:expression ;", "x", no},
		{"?a:expression ;", "; x", no},
		{"?a:expression ;", ";", no},
		{"?a:expression ;", "x ; ;", no},
		{"?a:expression ;", "x , ;", no},
		{"?a:expression ;", "x => ;", no},
		{"?a:expression ,", "x ,", "a: x"},
		{"?a:expression ,", "x ;", no},
		{"?a:expression =>", "x =>", "a: x"},
		{"?a:expression x", "y x", "a: y"},
		{"?a:expression x", "x x", no},
		{"?a:expression x", "x: y (x) x", "a: x: y ‹( x›"},
		{"?a:expression x", "y x x", no},
		{"?a:expression x", "y , x", no},
		{"?a:expression x", "y", no},
		{"?a:expression 1", "2 (1) 1", "a: 2 ‹( 1›"},
		{"?a:expression 1", "2 -1 1", no},
		{"?a:expression 1 1", "2 1 1", "a: 2"},
		{"?a:expression + ?b:expression", "x + y", "a: x, b: y"},
		{"?a:expression + ?b:expression", "x + y + z", "a: x, b: y + z"},
		{"?a:expression + ?b:expression + ?c:expression", "x + y + z", "a: x, b: y, c: z"},
		{"?a:expression + ?b:expression", "x + ", no},
		{"?a:expression , ?b:expression", "1 , 2 , 3", no},
		{"(?a:expression) ?b:name", "(x + y) z", "a: x + y, b: z"},
		{"(?a:expression) ?b:name", "() z", no},
		{"(?a:expression ; ?b:expression)", "(x + y ; z)", "a: x + y, b: z"},
		{"?a:expression (x)", "x (x)", "not"},

		{"?a:body", "", "a:"},
		{"?a:body", "x", "a: x"},
		{"?a:body", "x ; y , z => (u ; v)", "a: x ; y , z => ‹( u ; v›"},
		{"?a:body ;", "x ;", "a: x"},
		{"?a:body ;", ";", "a:"},
		{"?a:body ;", "x , y => z ;", "a: x , y => z"},
		{"?a:body ;", "x ; y ;", no},
		{"?a:body ;", "x", no},
		{"?a:body ;", "", no},
		{"?a:body ;", "(;) ;", "a: ‹( ;›"},
		{"?a:body x", "x", "a:"},
		{"?a:body x", "x: (x) x", "a: x: ‹( x›"},
		{"?a:body x", "y ; x", "a: y ;"},
		{"?a:body x", "x x", no},
		{"?a:body x x", "x x", "a:"},
		{"?a:body x ?b:body", "y x z x", "a: y, b: z x"},
		{"?a:body ; ?b:body ; ?c:body", ";;", "a:, b:, c:"},
		{"(?a:body) [?b:body]", "(x ; y) []", "a: x ; y, b:"},
		{"?a:body ?x", "not a pattern", "not"},

		{"?a:name = ?b:expression ; ?c:body", "x = f(1) + 2 ;", "a: x, b: f ‹( 1› + 2, c:"},
		{"?a:name = ?b:expression ; ?c:body", "x = f(1) + 2 ; y ; z", "a: x, b: f ‹( 1› + 2, c: y ; z"},
		{"(?c:expression) ?b:body", "(x < y) f(); g()", "c: x < y, b: f ‹(› ; g ‹(›"},
		{"?z:name (?y:name [?x:body] ?w:name) ?v:name", "a (b [] c) d", "z: a, y: b, x:, w: c, v: d"},
		{"?a:token (x)", "y (z)", no},
		{"?a", "x", "not"},
		{"?a:names", "x", "not"},
		{"?a:name ?a:name", "x y", "not"},
		{"(?a:name) ?a:name", "x", "not"},
		{variables(api.MaxArgs, "token"), strings.Repeat("x ", api.MaxArgs-1), no},
		{variables(api.MaxArgs+1, "token"), strings.Repeat("x ", api.MaxArgs), "not"},
	} {
		pattern, l := read(t, x.pattern, "w"), read(t, x.text, "w")
		binds, is, e := macro.Match(pattern, l)
		got := showBinds(binds)
		switch {
		case e == api.ErrMacro && !is && len(binds) == 0:
			got = "not"
		case e == api.OK && !is && len(binds) == 0:
			got = no
		case e != api.OK || !is:
			t.Errorf("Match of %q and %q = %v, %v, %v", x.pattern, x.text, binds, is, e)
		}
		if got != x.want {
			t.Errorf("Match of %q and %q: %s; expected %s", x.pattern, x.text, got, x.want)
		}
	}
}

// TestP3_1MatchKeepsTokens: variables take tokens with their Marks and Ats; those of the other tokens do not matter.
func TestP3_1MatchKeepsTokens(t *testing.T) {
	l := read(t, "x y (z, u) v")
	for i := range l {
		l[i].Tok.Mark = 10 + i
	}
	l[2].Kids[0].Tok.Mark = 20
	pattern := read(t, "x ?a:token (?b:expression , u) ?c:body")
	for i := range pattern {
		pattern[i].Tok.Mark, pattern[i].Tok.At = 30, 40
	}
	binds, is, e := macro.Match(pattern, l)
	if e != api.OK || !is || len(binds) != 3 || !exactly(binds[0].Frags, l[1:2]) || !exactly(binds[1].Frags, l[2].Kids[:1]) || !exactly(binds[2].Frags, l[3:]) {
		t.Errorf("Match = %v, %v, %v", binds, is, e)
	}
	if binds, is, e := macro.Match(read(t, "?a:body"), l); e != api.OK || !is || !exactly(binds[0].Frags, l) {
		t.Errorf("Match of a body = %v, %v, %v", binds, is, e)
	}
}

// TestP3_1MatchTokensAndGroups: a token is never like a group that begins with it.
func TestP3_1MatchTokensAndGroups(t *testing.T) {
	open := []api.Frag{{Tok: api.Token{Kind: api.TkSign, Text: "("}}}
	for _, x := range []struct {
		what       string
		pattern, l []api.Frag
		want       string
	}{
		{"a token and a token", read(t, "w"), read(t, "w"), ""},
		{"a token and a group", read(t, "w"), read(t, "w end", "w"), "no"},
		{"a group and a token", read(t, "w end", "w"), read(t, "w"), "no"},
		{"a sign and a sign", open, open, ""},
		{"a sign and a group", open, tower(1), "no"},
		{"a group and a sign", tower(1), open, "no"},
		{"a name and a group", read(t, "?a:name"), read(t, "w end", "w"), "no"},
		{"a stop and a group", read(t, "?a:body w"), append(read(t, "x w end", "w"), read(t, "w")...), "a: x ‹w›"},
		{"a stop and a group, in an expression", read(t, "?a:expression w"), append(read(t, "x w end", "w"), read(t, "w")...), "a: x ‹w›"},
	} {
		binds, is, e := macro.Match(x.pattern, x.l)
		if is != (x.want != "no") || is && showBinds(binds) != x.want || e != api.OK {
			t.Errorf("%s: Match = %s, %v, %v; expected %s", x.what, showBinds(binds), is, e, x.want)
		}
	}
}

func TestP3_1MatchErrors(t *testing.T) {
	wrong := read(t, "?a")
	for _, x := range []struct {
		what       string
		pattern, l []api.Frag
		is         bool
		e          api.Errno
	}{
		{"both too deep", tower(101), tower(101), false, api.ErrDeep},
		{"a pattern that is too deep and too long", append(row(api.MaxTokens+1), tower(101)...), nil, false, api.ErrDeep},
		{"a pattern that is too long, and a list that is too deep", row(api.MaxTokens + 1), tower(101), false, api.ErrLong},
		{"a list that is too deep", wrong, tower(101), false, api.ErrDeep},
		{"a list that is too deep and too long", wrong, append(row(api.MaxTokens+1), tower(101)...), false, api.ErrDeep},
		{"a list that is too long", wrong, row(api.MaxTokens + 1), false, api.ErrLong},
		{"no pattern", wrong, nil, false, api.ErrMacro},
		{"as deep as may be", tower(100), tower(100), true, api.OK},
		{"as long as may be", row(api.MaxTokens), row(api.MaxTokens), true, api.OK},
		{"a list as long as may be", read(t, "?a:body"), row(api.MaxTokens), true, api.OK},
		{"another depth", tower(100), tower(99), false, api.OK},
		{"another length", row(api.MaxTokens), row(api.MaxTokens - 1), false, api.OK},
	} {
		if binds, is, e := macro.Match(x.pattern, x.l); is != x.is || e != x.e || !is && len(binds) != 0 {
			t.Errorf("%s: Match = %.50s, %v, %v; expected %v, %v", x.what, showBinds(binds), is, e, x.is, x.e)
		}
	}
	for what, f := range odd() {
		if binds, is, e := macro.Match([]api.Frag{f}, []api.Frag{f}); len(binds) != 0 || is || e != api.ErrMacro {
			t.Errorf("%s: Match = %v, %v, %v; expected ErrMacro", what, binds, is, e)
		}
	}
}

// binding returns bindings of some names.
func binding(t *testing.T, pairs ...string) []api.MacroBind {
	t.Helper()
	var out []api.MacroBind
	for i := 0; i < len(pairs); i += 2 {
		out = append(out, api.MacroBind{Name: pairs[i], Frags: read(t, pairs[i+1])})
	}
	return out
}

func TestP3_1Fill(t *testing.T) {
	for _, x := range []struct {
		template string
		binds    []api.MacroBind
		mark     int
		want     string
	}{
		{"", nil, 1, ""},
		{"x", nil, 1, "x'1"},
		{"x", nil, 0, "x"},
		{"x (y [z]) begin w u end end", nil, 7, "x'7 ‹('7 y'7 ‹['7 z'7›› ‹begin'7 ‹w'7 u'7››"},
		{"?a", binding(t, "a", "x y"), 1, "x y"},
		{"?a", binding(t, "a", ""), 1, ""},
		{"?a", binding(t, "b", "y", "a", "x"), 1, "x"},
		{"?a ?a", binding(t, "a", "(x)"), 1, "‹( x› ‹( x›"},
		{"(?a) ?b [?a ?b]", binding(t, "a", "x", "b", "y z"), 2, "‹('2 x› y z ‹['2 x y z›"},
		{"x", binding(t, "a", "y"), 1, "x'1"},
		{"?a", binding(t, "a", "?b ?c:name"), 1, "?b ?c:name"},
		{"x", nil, math.MaxInt, "x'9223372036854775807"},
		{"?a", []api.MacroBind{{Name: "a"}, {Name: ""}, {Name: "1"}}, 1, ""},
	} {
		l, e := macro.Fill(read(t, x.template, "w"), x.binds, x.mark)
		if e != api.OK || show(l) != x.want {
			t.Errorf("Fill of %q with %s = %s, %v; expected %s", x.template, showBinds(x.binds), show(l), e, x.want)
		}
	}
}

// TestP3_1FillKeepsTokens: what is bound stays as it is; all other tokens keep their places.
func TestP3_1FillKeepsTokens(t *testing.T) {
	template, bound := read(t, "x (?a y) z"), read(t, "u [v]")
	for i := range template {
		template[i].Tok.Mark, template[i].Tok.At = 20+i, 30+i
	}
	bound[0].Tok.Mark, bound[1].Tok.Mark, bound[1].Kids[0].Tok.Mark = 11, 12, 13
	l, e := macro.Fill(template, []api.MacroBind{{Name: "a", Frags: bound}}, 5)
	want := []api.Frag{template[0], template[1], template[2]}
	want[1].Kids = []api.Frag{bound[0], bound[1], template[1].Kids[1]}
	want[0].Tok.Mark, want[1].Tok.Mark, want[1].Kids[2].Tok.Mark, want[2].Tok.Mark = 5, 5, 5, 5
	if e != api.OK || !exactly(l, want) {
		t.Errorf("Fill = %v, %v; expected %v", l, e, want)
	}
}

func TestP3_1FillErrors(t *testing.T) {
	bind := func(name string, l []api.Frag) []api.MacroBind { return []api.MacroBind{{Name: name, Frags: l}} }
	both := func(a, b []api.MacroBind) []api.MacroBind { return append(slices.Clone(a), b...) }
	const half = api.MaxTokens / 2
	for _, x := range []struct {
		what     string
		template []api.Frag
		binds    []api.MacroBind
		mark     int
		e        api.Errno
	}{
		{"a template that is too deep", tower(101), bind("a", row(api.MaxTokens+1)), -1, api.ErrDeep},
		{"a template that is too deep and too long", append(row(api.MaxTokens+1), tower(101)...), nil, -1, api.ErrDeep},
		{"a template that is too long", row(api.MaxTokens + 1), bind("a", tower(101)), -1, api.ErrLong},
		{"what is bound is too deep", read(t, "?b"), bind("a", tower(101)), -1, api.ErrDeep},
		{"what is bound is too deep and too long", read(t, "?b"), bind("a", append(row(api.MaxTokens+1), tower(101)...)), -1, api.ErrDeep},
		{"what is bound is too long", read(t, "?b"), bind("a", row(api.MaxTokens+1)), -1, api.ErrLong},
		{"one is too long, and the next one too deep", nil, both(bind("a", row(api.MaxTokens+1)), bind("b", tower(101))), 1, api.ErrLong},
		{"one is right, and the next one too deep", nil, both(bind("a", row(api.MaxTokens)), bind("b", tower(101))), 1, api.ErrDeep},
		{"two with the same name, one too deep", nil, both(bind("a", nil), bind("a", tower(101))), 1, api.ErrDeep},
		{"two with the same name", nil, both(bind("a", nil), bind("a", nil)), 1, api.ErrMacro},
		{"two with no name", nil, both(bind("", nil), bind("", nil)), 1, api.ErrMacro},
		{"two with the same name, and another one between them", nil, both(both(bind("a", nil), bind("b", nil)), bind("a", nil)), -1, api.ErrMacro},
		{"a name that is not bound", read(t, "?b"), bind("a", nil), -1, api.ErrMacro},
		{"a name that is not bound in a group", read(t, "?a ([?b])"), bind("a", nil), 1, api.ErrMacro},
		{"a name that is bound with a question mark", read(t, "?a"), bind("?a", nil), 1, api.ErrMacro},
		{"a name with a kind", read(t, "?a:name"), bind("a", nil), 1, api.ErrMacro},
		{"a name with a kind, bound", read(t, "?a:name"), bind("a:name", nil), 1, api.ErrMacro},
		{"a mark that is negative", read(t, "?a"), bind("a", nil), -1, api.ErrArg},
		{"the least mark", read(t, "?a ?a"), bind("a", row(half+1)), math.MinInt, api.ErrArg},
		{"as long as may be", read(t, "?a ?a"), bind("a", row(half)), 1, api.OK},
		{"too long", read(t, "?a x ?a"), bind("a", row(half)), 1, api.ErrLarge},
		{"too long by a token at the end", read(t, "?a ?a x"), bind("a", row(half)), 1, api.ErrLarge},
		{"too long by a group", read(t, "?a (?a)"), bind("a", row(half-1)), 1, api.OK},
		{"too long by a group and a token", read(t, "?a (?a) x"), bind("a", row(half-1)), 1, api.ErrLarge},
		{"too long by an empty group", read(t, "?a ?a x ()"), bind("a", row(half-1)), 1, api.ErrLarge},
		{"too long by far", slices.Repeat(read(t, "?a"), api.MaxTokens), bind("a", row(api.MaxTokens)), 1, api.ErrLarge},
		{"very often nothing", slices.Repeat(read(t, "?a"), api.MaxTokens), bind("a", nil), 1, api.OK},
		{"as deep as may be", tower(60, read(t, "?a")...), bind("a", tower(40)), 1, api.OK},
		{"too deep", tower(60, read(t, "?a")...), bind("a", tower(41)), 1, api.ErrLarge},
		{"too deep where it is used next", append(read(t, "?a"), tower(60, read(t, "?a")...)...), bind("a", tower(41)), 1, api.ErrLarge},
		{"too deep if it were used", tower(60), bind("a", tower(41)), 1, api.OK},
		{"too deep if it were used there", append(tower(60), read(t, "?a")...), bind("a", tower(41)), 1, api.OK},
		{"a token in as many groups as may be", tower(100, read(t, "?a")...), bind("a", row(1)), 1, api.OK},
		{"as deep as may be without what is bound", tower(100, read(t, "x")...), nil, 1, api.OK},
	} {
		l, e := macro.Fill(x.template, x.binds, x.mark)
		if e != x.e || e != api.OK && len(l) != 0 {
			t.Errorf("%s: Fill = %.50s, %v; expected %v", x.what, show(l), e, x.e)
		}
		if fragment.Depth(l) > api.MaxDeep || fragment.Size(l) > api.MaxTokens {
			t.Errorf("%s: Fill has %d tokens and the depth %d", x.what, fragment.Size(l), fragment.Depth(l))
		}
	}
	for what, f := range odd() {
		for _, mark := range []int{-1, 0} {
			binds := append(bind("a", nil), bind("", nil)...)
			if l, e := macro.Fill([]api.Frag{f}, binds, mark); len(l) != 0 || e != api.ErrMacro {
				t.Errorf("%s: Fill = %v, %v; expected ErrMacro", what, l, e)
			}
		}
	}
}
