package macro_test

import (
	"fmt"
	"math"
	"slices"
	"strings"
	"testing"

	"skerry/api"
	"skerry/fragment"
	"skerry/macro"
)

// showExpansion writes an expansion: the macro and the rule, the mark, where it is, and the bindings.
func showExpansion(x api.Expansion) string {
	return fmt.Sprintf("%s/%d '%d @%d {%s}", x.Macro, x.Rule, x.Mark, x.At, showBinds(x.Binds))
}

func showExpansions(l []api.Expansion) string {
	var out []string
	for _, x := range l {
		out = append(out, showExpansion(x))
	}
	return strings.Join(out, "; ")
}

// some are macros for tests.
const some = "define macro w { w ?b:body end } => { [?b] } end; " +
	"define macro two { two(?a:name) } => { 1 ?a } { two(?a:expression , ?b:body) } => { 2 ?b ?a } { two(7 ?a:token) } => { 3 (?a) } end; " +
	"define macro none { none(?a:body) } => { } end; " +
	"define macro same { same(?a:body) } => { ?a } end; " +
	"define macro call { call(?a:name) } => { ?a (x) } end; "

func TestP3_1Once(t *testing.T) {
	macros := define(t, some)
	for _, x := range []struct{ text, list, expansion string }{
		{"", "", ""},
		{"x (y) two", "x ‹( y› two", ""},
		{"two", "two", ""},
		{"two [x]", "two ‹[ x›", ""},
		{"two x (x)", "two x ‹( x›", ""},
		{"two: (x)", "two: ‹( x›", ""},
		{"(w end)", "‹( ‹['9››", "w/0 '9 @1 {b:}"},
		{"two(x)", "1'9 x", "two/0 '9 @0 {a: x}"},
		{"two(x, y)", "2'9 y x", "two/1 '9 @0 {a: x, b: y}"},
		{"two(7 +)", "3'9 ‹('9 +›", "two/2 '9 @0 {a: +}"},
		{"two(x, two(y))", "2'9 two ‹( y› x", "two/1 '9 @0 {a: x, b: two ‹( y›}"},
		{"two(two(x), y)", "2'9 y two ‹( x›", "two/1 '9 @0 {a: two ‹( x›, b: y}"},
		{"x; (two(x) y) two(y)", "x ; ‹( 1'9 x y› two ‹( y›", "two/0 '9 @3 {a: x}"},
		{"x w two(x) end", "x ‹['9 two ‹( x››", "w/0 '9 @1 {b: two ‹( x›}"},
		{"[x () y] begin {two(x)} end", "‹[ x ‹(› y› ‹begin ‹{ 1'9 x››", "two/0 '9 @8 {a: x}"},
		{"none(x y) z", "z", "none/0 '9 @0 {a: x y}"},
		{"x none()", "x", "none/0 '9 @1 {a:}"},
		{"two none() (x)", "two ‹( x›", "none/0 '9 @1 {a:}"},
		{"x two two(x)", "x two 1'9 x", "two/0 '9 @2 {a: x}"},
		{"call(two)", "two ‹('9 x'9›", "call/0 '9 @0 {a: two}"},
		{"same(same(x)) y", "same ‹( x› y", "same/0 '9 @0 {a: same ‹( x›}"},
	} {
		l := read(t, x.text, "w")
		now, y, is, e := macro.Once(macros, l, 9)
		got := ""
		if is {
			got = showExpansion(y)
		} else if !exactly(now, l) || y.Macro != "" || y.Rule != 0 || y.Mark != 0 || y.At != 0 || len(y.Binds) != 0 {
			t.Errorf("Once of %q = %s, %s, %v, %v", x.text, show(now), showExpansion(y), is, e)
		}
		if show(now) != x.list || got != x.expansion || e != api.OK {
			t.Errorf("Once of %q = %s, %s, %v, %v; expected %s, %s", x.text, show(now), showExpansion(y), is, e, x.list, x.expansion)
		}
	}
	// A name and parentheses are no call of a statement macro, nor is a group of a word one of a function macro.
	other := []api.Frag{
		{Tok: api.Token{Kind: api.TkName, Text: "w"}}, tower(1)[0],
		{Tok: api.Token{Kind: api.TkName, Text: "same"}, Open: "same"}, tower(1)[0],
		{Tok: api.Token{Kind: api.TkName, Text: "same"}}, {Tok: api.Token{Kind: api.TkSign, Text: "("}},
	}
	if now, _, is, e := macro.Once(macros, other, 9); !exactly(now, other) || is || e != api.OK {
		t.Errorf("Once = %s, %v, %v", show(now), is, e)
	}
}

func TestP3_1OnceErrors(t *testing.T) {
	macros := define(t, some+"define macro big { big(?a:body) } => { ?a ?a } end; define macro deep { deep(?a:body) } => { (?a) } end; "+
		"define macro three { three(?a:body) } => { (((x))) } end; define macro empty { empty() } => { (()) } end; define macro deeper { deeper(?a:body) } => { ((?a)) } end;")
	const half = api.MaxTokens / 2
	call := func(name string, kids ...api.Frag) []api.Frag {
		return append([]api.Frag{{Tok: api.Token{Kind: api.TkName, Text: name}}}, tower(1, kids...)...)
	}
	for _, x := range []struct {
		what string
		l    []api.Frag
		mark int
		e    api.Errno
		x    string
		is   bool
	}{
		{"no call", read(t, "x"), 0, api.OK, "/0 '0 @0 {}", false},
		{"no call, and a negative mark", read(t, "x"), -1, api.ErrArg, "/0 '0 @0 {}", false},
		{"a call, and a negative mark", read(t, "two()"), -1, api.ErrArg, "/0 '0 @0 {}", false},
		{"a call, and the mark 0", read(t, "two(x)"), 0, api.OK, "two/0 '0 @0 {a: x}", true},
		{"a call, and a great mark", read(t, "two(x)"), math.MaxInt, api.OK, "two/0 '9223372036854775807 @0 {a: x}", true},
		{"no match", read(t, "x two()"), 3, api.ErrMatch, "two/0 '3 @1 {}", true},
		{"no match, in a group", read(t, "x (y) [two(1)]"), 3, api.ErrMatch, "two/0 '3 @5 {}", true},
		{"no match, and the mark 0", read(t, "two()"), 0, api.ErrMatch, "two/0 '0 @0 {}", true},
		{"a match of the last rule but for its end", read(t, "two(7 + 7)"), 3, api.ErrMatch, "two/0 '3 @0 {}", true},
		{"as long as may be", call("big", row(half)...), 3, api.OK, "", true},
		{"too long", append(row(1), call("big", row(half)...)...), 3, api.ErrLarge, "big/0 '3 @1 {}", true},
		{"too long by what is behind", append(call("big", row(half)...), row(1)...), 3, api.ErrLarge, "big/0 '3 @0 {}", true},
		{"too long by the group around", tower(1, call("big", row(half)...)...), 3, api.ErrLarge, "big/0 '3 @1 {}", true},
		{"as long as may be, in a group", tower(1, call("big", row(half-1)...)...), 3, api.OK, "", true},
		{"too long by far", call("big", row(api.MaxTokens-3)...), 3, api.ErrLarge, "big/0 '3 @0 {}", true},
		{"as deep as may be", call("deep", tower(99)...), 3, api.OK, "", true},
		{"as deep as may be, in groups", tower(49, call("deep", tower(50)...)...), 3, api.OK, "", true},
		{"as deep as before", call("same", tower(99)...), 3, api.OK, "", true},
		{"a group behind a name", tower(99, call("call", read(t, "x")...)...), 3, api.OK, "", true},
		{"a group for a group", tower(98, read(t, "w w end end", "w")...), 3, api.OK, "", true},
		{"three groups", tower(97, call("three")...), 3, api.OK, "", true},
		{"three groups, too deep", tower(98, call("three")...), 3, api.ErrLarge, "three/0 '3 @98 {}", true},
		{"empty groups", tower(98, call("empty")...), 3, api.OK, "", true},
		{"empty groups, too deep", tower(99, call("empty")...), 3, api.ErrLarge, "empty/0 '3 @99 {}", true},
		{"deeper", tower(97, call("deeper", tower(1)...)...), 3, api.OK, "", true},
		{"too deep by what is bound", tower(97, call("deeper", tower(2)...)...), 3, api.ErrLarge, "deeper/0 '3 @97 {}", true},
		{"too deep without what is bound", tower(99, call("deeper")...), 3, api.ErrLarge, "deeper/0 '3 @99 {}", true},
	} {
		now, y, is, e := macro.Once(macros, x.l, x.mark)
		if e != x.e || is != x.is || x.x != "" && showExpansion(y) != x.x || e != api.OK && len(now) != 0 {
			t.Errorf("%s: Once = %.50s, %.100s, %v, %v; expected %s, %v, %v", x.what, show(now), showExpansion(y), is, e, x.x, x.is, x.e)
		}
		if fragment.Size(now) > api.MaxTokens || fragment.Depth(now) > api.MaxDeep {
			t.Errorf("%s: Once has %d tokens and the depth %d", x.what, fragment.Size(now), fragment.Depth(now))
		}
		if e != api.ErrMatch && e != api.ErrLarge {
			continue
		}
		if now, l, at, e := macro.With(macros, x.l); len(now) != 0 || len(l) != 0 || at != y.At || e != x.e {
			t.Errorf("%s: With = %.50s, %s, %d, %v; expected %d, %v", x.what, show(now), showExpansions(l), at, e, y.At, x.e)
		}
		if now, at, e := macro.Replay(macros, x.l, []api.Expansion{y}); len(now) != 0 || at != 0 || e != api.ErrReplay {
			t.Errorf("%s: Replay = %.50s, %d, %v; expected ErrReplay", x.what, show(now), at, e)
		}
	}
}

func TestP3_1With(t *testing.T) {
	macros := define(t, some)
	for _, x := range []struct{ text, list, expansions string }{
		{"", "", ""},
		{"x; (y)", "x ; ‹( y›", ""},
		{"two(x) two(y)", "1'1 x 1'2 y", "two/0 '1 @0 {a: x}; two/0 '2 @2 {a: y}"},
		{"two(two(x), two(y))", "2'1 1'2 y 1'3 x", "two/1 '1 @0 {a: two ‹( x›, b: two ‹( y›}; two/0 '2 @1 {a: y}; two/0 '3 @3 {a: x}"},
		{"w w two(x) end end", "‹['1 ‹['2 1'3 x››", "w/0 '1 @0 {b: ‹w two ‹( x››}; w/0 '2 @1 {b: two ‹( x›}; two/0 '3 @2 {a: x}"},
		{"call(two) z", "1'2 x'1 z", "call/0 '1 @0 {a: two}; two/0 '2 @0 {a: x'1}"},
		{"two none() (x)", "1'2 x", "none/0 '1 @1 {a:}; two/0 '2 @0 {a: x}"},
		{"same(two) (x)", "1'2 x", "same/0 '1 @0 {a: two}; two/0 '2 @0 {a: x}"},
		{"same(call(call)) y", "x'2 ‹('3 x'3› y", "same/0 '1 @0 {a: call ‹( call›}; call/0 '2 @0 {a: call}; call/0 '3 @0 {a: x'2}"},
		{"none(two(), two()) x", "x", "none/0 '1 @0 {a: two ‹(› , two ‹(›}"},
	} {
		l := read(t, x.text, "w")
		now, y, at, e := macro.With(macros, l)
		if show(now) != x.list || showExpansions(y) != x.expansions || at != 0 || e != api.OK {
			t.Errorf("With of %q = %s, %s, %d, %v; expected %s, %s", x.text, show(now), showExpansions(y), at, e, x.list, x.expansions)
		}
	}
	if now, x, at, e := macro.With(macros, read(t, "x two(x) (two(y) two())")); len(now) != 0 || len(x) != 0 || at != 6 || e != api.ErrMatch {
		t.Errorf("With = %s, %v, %d, %v; expected ErrMatch at 6", show(now), x, at, e)
	}
}

// TestP3_1WithMarks: there are at most MaxMarks expansions.
func TestP3_1WithMarks(t *testing.T) {
	macros := define(t, some+"define macro on { on(?a:body) } => { on(?a) } end; define macro grow { grow(?a:body) } => { grow(x ?a) } end;")
	for _, x := range []struct {
		what string
		text string
		n    int
		at   int
		e    api.Errno
	}{
		{"as many as may be", strings.Repeat("none() ", api.MaxMarks), api.MaxMarks, 0, api.OK},
		{"one more", strings.Repeat("none() ", api.MaxMarks+1), 0, 0, api.ErrMarks},
		{"one more, behind a name", "x " + strings.Repeat("none() ", api.MaxMarks+1), 0, 0, api.ErrMarks},
		{"one more, which does not match", "x " + strings.Repeat("none() ", api.MaxMarks) + "two()", 0, 0, api.ErrMarks},
		{"the last one does not match", "x " + strings.Repeat("none() ", api.MaxMarks-1) + "two()", 0, 1, api.ErrMatch},
		{"no end", "on(x)", 0, 0, api.ErrMarks},
		{"no end, growing", "grow()", 0, 0, api.ErrMarks},
		{"within each other", strings.Repeat("same(", 99) + strings.Repeat(")", 99), 99, 0, api.OK},
	} {
		l, y, at, e := macro.With(macros, read(t, x.text))
		if len(y) != x.n || at != x.at || e != x.e || e != api.OK && len(l) != 0 {
			t.Errorf("%s: With = %.50s, %d expansions, %d, %v; expected %d, %d, %v", x.what, show(l), len(y), at, e, x.n, x.at, x.e)
		}
		for i, z := range y {
			if z.Mark != i+1 {
				t.Errorf("%s: the Mark of the expansion %d is %d", x.what, i, z.Mark)
			}
		}
	}
}

func TestP3_1Expand(t *testing.T) {
	for _, x := range []struct{ text, list, expansions string }{
		{defs + "twice(x)", "‹begin'1 let'1 x'1 ='1 x ;'1 x'1 +'1 x'1›", "twice/0 '1 @0 {e: x}"},
		{"twice(x) " + defs + "y", "‹begin'1 let'1 x'1 ='1 x ;'1 x'1 +'1 x'1› y", "twice/0 '1 @0 {e: x}"},
		{"define macro m { m() } => { 1 } end; (m) m()", "‹( m› 1'1", "m/0 '1 @3 {}"},
		{"x y", "x y", ""},
		{"(define macro m { m() } => { 1 } end; m())", "‹( define ‹macro m ‹{ m ‹(›› => ‹{ 1›› ; m ‹(››", ""},
		{"define macro m { m() } => { 1 } end; twice(m())", "twice ‹( 1'1›", "m/0 '1 @2 {}"},
		{"define macro m { m() } => { define macro n { n() } => { 1 } end; n() } end; m()", "define'1 ‹macro'1 n'1 ‹{'1 n'1 ‹('1›› =>'1 ‹{'1 1'1›› ;'1 n'1 ‹('1›", "m/0 '1 @0 {}"},
		{defs + "while (twice(a)) f() end", "", "while/0 '1 @0 {c: twice ‹( a›, b: f ‹(›}; twice/0 '2 @11 {e: a}"},
	} {
		l := read(t, x.text)
		now, y, at, e := macro.Expand(l)
		if x.list != "" && show(now) != x.list || showExpansions(y) != x.expansions || at != 0 || e != api.OK {
			t.Errorf("Expand of %q = %s, %s, %d, %v; expected %s, %s", x.text, show(now), showExpansions(y), at, e, x.list, x.expansions)
		}
		macros, rest, _, _ := macro.Define(l)
		if with, z, _, _ := macro.With(macros, rest); !exactly(now, with) || showExpansions(y) != showExpansions(z) {
			t.Errorf("Expand of %q = %s, but With of what Define returns = %s", x.text, show(now), show(with))
		}
	}
	for _, x := range []struct {
		text string
		at   int
		e    api.Errno
	}{
		{"x " + defs + "y twice()", 2, api.ErrMatch},
		{"x twice() " + defs, 1, api.ErrMatch},
		{"x define macro m { m() } => { m() } end; m()", 0, api.ErrMarks},
		{"x; define macro m { m() } => { m() } end m()", 2, api.ErrMacro},
		{"define macro m { m(?a:body) } => { " + strings.Repeat("?a ", 3000) + " } end; m(x y) m(z)", 0, api.ErrLarge},
	} {
		if l, y, at, e := macro.Expand(read(t, x.text)); len(l) != 0 || len(y) != 0 || at != x.at || e != x.e {
			t.Errorf("Expand of %.100q = %.50s, %s, %d, %v; expected %d, %v", x.text, show(l), showExpansions(y), at, e, x.at, x.e)
		}
	}
}

func TestP3_1Replay(t *testing.T) {
	macros := define(t, some)
	l := read(t, "two(two(x), two(y)) w two(z) end", "w")
	want, right, _, e := macro.With(macros, l)
	if e != api.OK || len(right) != 5 {
		t.Fatalf("With = %s, %v", showExpansions(right), e)
	}
	if got, at, e := macro.Replay(macros, l, right); !exactly(got, want) || at != 0 || e != api.OK {
		t.Errorf("Replay = %s, %d, %v; expected %s", show(got), at, e, show(want))
	}
	for n := range right {
		got, at, e := macro.Replay(macros, l, right[:n])
		now := l
		for i := range n {
			now, _, _, _ = macro.Once(macros, now, i+1)
		}
		if !exactly(got, now) || at != 0 || e != api.OK {
			t.Errorf("Replay of %d expansions = %s, %d, %v; expected %s", n, show(got), at, e, show(now))
		}
	}
	for what, change := range map[string]func(x *api.Expansion){
		"another macro":               func(x *api.Expansion) { x.Macro = "none" },
		"no macro":                    func(x *api.Expansion) { *x = api.Expansion{} },
		"another rule":                func(x *api.Expansion) { x.Rule++ },
		"a rule ahead":                func(x *api.Expansion) { x.Rule-- },
		"another place":               func(x *api.Expansion) { x.At++ },
		"a place ahead":               func(x *api.Expansion) { x.At-- },
		"a negative mark":             func(x *api.Expansion) { x.Mark = -1 },
		"the least mark":              func(x *api.Expansion) { x.Mark = math.MinInt },
		"no bindings":                 func(x *api.Expansion) { x.Binds = nil },
		"a binding more":              func(x *api.Expansion) { x.Binds = append(slices.Clone(x.Binds), api.MacroBind{}) },
		"another binding":             func(x *api.Expansion) { x.Binds = binding(t, "a", "x", "b", "y") },
		"another name":                func(x *api.Expansion) { x.Binds = slices.Clone(x.Binds); x.Binds[0].Name = "z" },
		"nothing bound":               func(x *api.Expansion) { x.Binds = slices.Clone(x.Binds); x.Binds[0].Frags = nil },
		"another fragment bound":      func(x *api.Expansion) { first(x).Tok.Text = "other" },
		"another kind bound":          func(x *api.Expansion) { first(x).Tok.Kind++ },
		"another number bound":        func(x *api.Expansion) { first(x).Tok.Num++ },
		"another mark of what is":     func(x *api.Expansion) { first(x).Tok.Mark++ },
		"another place of what is":    func(x *api.Expansion) { first(x).Tok.At++ },
		"another opening bound":       func(x *api.Expansion) { first(x).Open += "x" },
		"other kids bound":            func(x *api.Expansion) { first(x).Kids = row(1) },
		"a fragment more":             func(x *api.Expansion) { first(x); x.Binds[0].Frags = append(x.Binds[0].Frags, row(1)...) },
		"fragments that are too deep": func(x *api.Expansion) { first(x); x.Binds[0].Frags = tower(101) },
	} {
		for i := range right {
			all := slices.Clone(right)
			change(&all[i])
			if got, at, e := macro.Replay(macros, l, all); len(got) != 0 || at != i || e != api.ErrReplay {
				t.Errorf("%s: Replay = %s, %d, %v; expected ErrReplay at %d", what, show(got), at, e, i)
			}
		}
	}
	for _, x := range []struct {
		what string
		l    []api.Expansion
		at   int
	}{
		{"one too many", append(slices.Clone(right), right[4]), 5},
		{"a zero one behind them", append(slices.Clone(right), api.Expansion{}), 5},
		{"the second one left out", slices.Delete(slices.Clone(right), 1, 2), 1},
		{"the first one left out", right[1:], 0},
		{"the first one twice", append(right[:1:1], right...), 1},
	} {
		if got, at, e := macro.Replay(macros, l, x.l); len(got) != 0 || at != x.at || e != api.ErrReplay {
			t.Errorf("%s: Replay = %s, %d, %v; expected ErrReplay at %d", x.what, show(got), at, e, x.at)
		}
	}
	if got, at, e := macro.Replay(macros, read(t, "x"), []api.Expansion{{}}); len(got) != 0 || at != 0 || e != api.ErrReplay {
		t.Errorf("Replay of a zero expansion without a call = %s, %d, %v; expected ErrReplay", show(got), at, e)
	}
}

// first returns the first fragment that is bound, in memory of its own.
func first(x *api.Expansion) *api.Frag {
	x.Binds = slices.Clone(x.Binds)
	x.Binds[0].Frags = slices.Clone(x.Binds[0].Frags)
	return &x.Binds[0].Frags[0]
}

// TestP3_1ReplayMarks: the marks may be any numbers from 0 on; the expansions are at most MaxMarks.
func TestP3_1ReplayMarks(t *testing.T) {
	macros := define(t, some)
	l := read(t, "two(x) call(y) call(z) two(x)")
	var x []api.Expansion
	now := l
	for _, mark := range []int{0, math.MaxInt, 5, 5} {
		var y api.Expansion
		now, y, _, _ = macro.Once(macros, now, mark)
		x = append(x, y)
	}
	if got, at, e := macro.Replay(macros, l, x); !exactly(got, now) || at != 0 || e != api.OK || show(got) != "1 x y ‹('9223372036854775807 x'9223372036854775807› z ‹('5 x'5› 1'5 x" {
		t.Errorf("Replay = %s, %d, %v; expected %s", show(got), at, e, show(now))
	}
	many := read(t, strings.Repeat("none() ", api.MaxMarks+1))
	all := slices.Repeat([]api.Expansion{{Macro: "none", Mark: 3, Binds: []api.MacroBind{{Name: "a"}}}}, api.MaxMarks+1)
	if got, at, e := macro.Replay(macros, many, all[1:]); show(got) != "none ‹(›" || at != 0 || e != api.OK {
		t.Errorf("Replay of as many as may be = %.50s, %d, %v", show(got), at, e)
	}
	if got, at, e := macro.Replay(macros, many, all); len(got) != 0 || at != 0 || e != api.ErrLong {
		t.Errorf("Replay of one more = %.50s, %d, %v; expected ErrLong", show(got), at, e)
	}
}

func TestP3_1Calls(t *testing.T) {
	macros := define(t, some)
	for _, x := range []struct {
		text string
		want int
	}{
		{"", 0},
		{"two w: none [x] (y) w2 (x)", 0},
		{"two()", 1},
		{"two two()", 1},
		{"two() two()", 2},
		{"two(two(two(x, none())))", 4},
		{"w end", 1},
		{"w w two() end end", 3},
		{"([{begin two() end}]) if w end end", 2},
		{"twice(two())", 1},
		{"two (x) (two(y))", 2},
		{"(two) (x)", 0},
	} {
		if got := macro.Calls(macros, read(t, x.text, "w")); got != x.want {
			t.Errorf("Calls of %q = %d; expected %d", x.text, got, x.want)
		}
		if got := macro.Calls(nil, read(t, x.text, "w")); got != 0 {
			t.Errorf("Calls of %q without macros = %d", x.text, got)
		}
	}
	if got := macro.Calls(macros, slices.Repeat(read(t, "none()"), api.MaxTokens/3)); got != api.MaxTokens/3 {
		t.Errorf("Calls of as many as there can be = %d", got)
	}
}

func TestP3_1Unmark(t *testing.T) {
	l := read(t, "x (y [z]) begin u end 1 + a: ?b")
	marked := read(t, "x (y [z]) begin u end 1 + a: ?b")
	var mark func(l []api.Frag)
	mark = func(l []api.Frag) {
		for i := range l {
			l[i].Tok.Mark = i*7 + 1
			mark(l[i].Kids)
		}
	}
	mark(marked)
	if got := macro.Unmark(marked); !exactly(got, l) || show(got) != "x ‹( y ‹[ z›› ‹begin u› 1 + a: ?b" {
		t.Errorf("Unmark = %s; expected %s", show(got), show(l))
	}
	if got := macro.Unmark(nil); len(got) != 0 {
		t.Errorf("Unmark of nothing = %s", show(got))
	}
	if got := macro.Unmark(tower(100)); !exactly(got, tower(100)) {
		t.Errorf("Unmark of as deep a list as may be = %s", show(got))
	}
	if got := macro.Unmark(tower(101)); len(got) != 0 {
		t.Errorf("Unmark of a list that is too deep = %s", show(got))
	}
	if got := macro.Unmark(row(api.MaxTokens + 1)); len(got) != api.MaxTokens+1 {
		t.Errorf("Unmark of many tokens has %d", len(got))
	}
}

// TestP3_1Examples are those of the document that no other test has.
func TestP3_1Examples(t *testing.T) {
	l := read(t, defs)
	if words := macro.Words(fragment.Flat(l)); !slices.Equal(words, []string{"while"}) {
		t.Errorf("Words = %q", words)
	}
	macros, rest, _, e := macro.Define(l)
	if len(macros) != 2 || macros[0].Name != "while" || !macros[0].Statement || macros[1].Name != "twice" || macros[1].Statement || len(rest) != 0 || e != api.OK {
		t.Errorf("Define = %s, %s, %v", showMacros(macros), show(rest), e)
	}
	if now, x, at, e := macro.With(macros, read(t, "twice()")); len(now) != 0 || len(x) != 0 || at != 0 || e != api.ErrMatch {
		t.Errorf("With of a call without arguments = %s, %v, %d, %v", show(now), x, at, e)
	}
	if now, x, at, e := macro.With(macros, read(t, "twice")); show(now) != "twice" || len(x) != 0 || at != 0 || e != api.OK {
		t.Errorf("With of a name = %s, %v, %d, %v", show(now), x, at, e)
	}
	m := define(t, "define macro m { m(?e:body) } => { m(?e) } end;")
	if now, x, at, e := macro.With(m, read(t, "m()")); len(now) != 0 || len(x) != 0 || at != 0 || e != api.ErrMarks {
		t.Errorf("With of a macro that goes on = %s, %v, %d, %v", show(now), x, at, e)
	}
}
