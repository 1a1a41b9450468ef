package library_test

import (
	"fmt"
	"slices"
	"strings"
	"testing"

	"skerry/api"
	"skerry/lex"
	"skerry/library"
	"skerry/syntax"
)

// with returns the interface of a library without names, with macros: function macros, or (with a star) statement macros. The template of each of them is the name of its library.
func with(lib string, macros string) api.Interface {
	i := api.Interface{Face: api.Face{Lib: lib}, Whole: api.Face{Lib: lib}}
	for _, name := range strings.Fields(macros) {
		name, statement := strings.CutSuffix(name, "*")
		m := plain(name, token(lib))
		m.Statement = statement
		i.Macros = append(i.Macros, m)
	}
	return i
}

func TestP6_1Uses(t *testing.T) {
	used := []api.Interface{with("c", "p q"), with("a", "q r* s"), with("b", ""), with("d", "s* t r"), with("use", "u"), with("<e>", "v w*")}
	for _, x := range []struct{ text, want string }{
		{"", ""},
		{";", ""},
		{"use", ""},
		{"use a", ""},
		{"a ;", ""},
		{"use a;", "q r* s"},
		{"use a ;", "q r* s"},
		{"library x; use a; 1", "q r* s"},
		{"library x; use a; use c; 1", "p q r* s"},
		{"library x; use c; use a; 1", "p q r* s"},
		{"use a; use a; use c; use a;", "p q r* s"},
		{"use a; use d;", "q r* s t"},
		{"use d;", "s* t r"},
		{"use b;", ""},
		{"use z;", ""},
		{"use z; use b; use c;", "p q"},
		{"use c, prefix: x;", ""},
		{"use c, import: { f };", ""},
		{"use c , ; use a ,", ""},
		{"use a . ;", ""},
		{"use a, b;", ""},
		{"use /* a */ a // ;\n;", "q r* s"},
		{"use; a;", ""},
		{"use (a);", ""},
		{"f(1) + use c; )", "p q"}, // wherever they stand
		{"begin { use c ; } end", "p q"},
		{"use use ;", "u"},
		{"use use c ;", "p q"},
		{"use use use ; ;", "u"},
		{"use use; a ;", "u"},
		{"use <e>;", "v w*"},
		{"use c@a; use a@0;", ""},
		{"use: c;", ""},
		{"use c:;", ""},
		{"used c;", ""},
		{"?use c;", ""},
		{"use ?c;", ""},
		{"use 1; use #t; use (;", ""},
		{"use c :=", ""},
		{"use c end", ""},
		{"use c )", ""},
		{"library use; use", ""},
	} {
		l, e := library.Uses(x.text, used)
		if e != api.OK || macroNames(l) != x.want {
			t.Errorf("Uses of %q = %s, %v; expected %s", x.text, macroNames(l), e, x.want)
		}
		if l, e := library.Uses(x.text, nil); e != api.OK || len(l) != 0 {
			t.Errorf("Uses of %q without interfaces = %s, %v", x.text, macroNames(l), e)
		}
	}
	// Of several with the same name the first one, in the order of the interfaces.
	l, _ := library.Uses("use d; use a; use c;", used)
	var from []string
	for _, m := range l {
		from = append(from, m.Name+"@"+m.Rules[0].Template[0].Tok.Text)
	}
	if got := strings.Join(from, " "); got != "p@c q@c r@a s@a t@d" {
		t.Errorf("Uses has %s", got)
	}
	for _, text := range []string{"use c; \"", "use c; 007", "use c; #true", "/*"} {
		_, _, want := lex.Scan(text)
		if l, e := library.Uses(text, used); e != want || l != nil || e == api.OK {
			t.Errorf("Uses of %q = %v, %v; expected %v", text, l, e, want)
		}
	}
	if l, e := library.Uses("use c; begin ( define macro end ; let", used); e != api.OK || len(l) != 2 {
		t.Errorf("Uses of a text that is no library = %v, %v", l, e)
	}
	many := make([]api.Interface, api.MaxLibs)
	for i := range many {
		many[i] = with(fmt.Sprint("l", i), "")
		many[i].Macros = macros(api.MaxMacros)
		for j := range many[i].Macros {
			many[i].Macros[j].Name = fmt.Sprintf("m%d-%d", i, j)
		}
	}
	if l, e := library.Uses("use l0; use l1; use l2; use l3; use l4; use l5; use l6; use l7; use l8; use l9;", many); e != api.OK || len(l) != 400 {
		t.Errorf("Uses of many macros = %d, %v", len(l), e)
	}
}

// TestP6_1Front: the sources of texts with macros, and the texts' own macros.
func TestP6_1Front(t *testing.T) {
	m, a := valid(t), built(t, textA).Interface
	both := []api.Interface{m, a}
	for _, x := range []struct{ text, want, own string }{
		{"library x;", "library x ;", ""},
		{"library x; 1 + 2", "library x ; 1 + 2", ""},
		{"patch x; define constant k = 1;", "patch x ; define constant k = 1 ;", ""},
		{"library x; use a; inc(2)", "library x ; use a ; 2 + 1", ""},
		{"library x; inc(2)", "library x ; inc ( 2 )", ""},
		{"library x; use a, prefix: p; inc(2)", "library x ; use a , prefix: p ; inc ( 2 )", ""},
		{"library x; use m; inc(y) * inc(1, y [z])", "library x ; use m ; ( y + 1 ) * ( 1 + y )", ""},
		{"library x; use m; use a; 2 * inc(y)", "library x ; use m ; use a ; 2 * ( y + 1 )", ""},
		{"library x; use m; unless (c) d end", "library x ; use m ; if ( c ) #f else d end", ""},
		{"library x; use m; f(unless d end)", "library x ; use m ; f ( d )", ""},
		{"library x; use m; unless (c) unless (inc(d)) e end end", "library x ; use m ; if ( c ) #f else if ( d + 1 ) #f else e end end", ""},
		{"library x; define macro two { two() } => { 2 } end; two() + two()", "library x ; 2 + 2", "two"},
		{"library x; two(); define macro two { two() } => { define constant k = 2 } end;", "library x ; define constant k = 2 ;", "two"},
		{"library x; use a; define macro inc { inc(?e:expression) } => { ?e - 1 } end; inc(2)", "library x ; use a ; 2 - 1", "inc"},
		{"library x; use a; define macro dec { dec(?e:expression) } => { inc(?e) - 2 } end; dec(inc(2))", "library x ; use a ; 2 + 1 + 1 - 2", "dec"},
		{"library x; use m; define macro when { when (?c:expression) ?b:body end } => { unless (~ ?c) ?b end } end macro when; when (c) d end", "library x ; use m ; if ( ~ c ) #f else d end", "when*"},
		{"library x; use m; define macro unless { unless ?b:body end } => { begin ?b end } end; unless d end", "library x ; use m ; d", "unless*"},
		{"library x; define macro b { b end } => { 1 } end; define macro a { a() } => { b end } end; a()", "library x ; 1", "b* a"},
		{"library x; define method f (x) x end method f; define class <c> (<object>) end <c>; f(1);", "library x ; define method f ( x ) x end ; define class <c> ( <object> ) end ; f ( 1 )", ""},
	} {
		want := parsed(t, x.want)
		s, own, trouble, e := library.Front(x.text, both)
		if e != api.OK || trouble != (api.Trouble{}) {
			t.Errorf("Front of %q = %v, %v", x.text, trouble, e)
			continue
		}
		if !exactly(s, want) && printed(s) != printed(want) || macroNames(own) != x.own {
			t.Errorf("Front of %q = %s, with %s; expected %s, with %s", x.text, printed(s), macroNames(own), printed(want), x.own)
		}
	}
}

// parsed parses the text of a source without macros.
func parsed(t *testing.T, text string) api.Source {
	t.Helper()
	l, _, _ := lex.Scan(text)
	s, at, e := syntax.ParseTokens(l)
	if e != api.OK {
		t.Fatalf("ParseTokens of %q = %d, %v", text, at, e)
	}
	return s
}

// TestP6_1FrontMarks: tokens of templates have marks.
func TestP6_1FrontMarks(t *testing.T) {
	s, _, _, e := library.Front("library x; define macro or2 { or2(?a:expression, ?b:expression) } => { begin let t = ?a; if (t) t else f(?b) end end } end; or2(1, t) + or2(2, t)", nil)
	if e != api.OK {
		t.Fatalf("Front = %v", e)
	}
	one := "begin let t@%d = %d ; if ( t@%d ) t@%d else f@0 ( t ) end end"
	want := fmt.Sprintf(one, 1, 1, 1, 1) + " + " + fmt.Sprintf(one, 2, 2, 2, 2)
	l, _, _ := lex.Scan(want)
	x, _, _ := syntax.ParseExpr(l)
	if !exactly(s.Main[0], x) {
		t.Errorf("Front = %s; expected %s", printedExpr(s.Main[0]), want)
	}
}

// TestP6_1FrontWords: the words of reading are those of the statement macros that the text defines, and then of those that it uses and that are not there yet.
func TestP6_1FrontWords(t *testing.T) {
	var own, calls, used string
	for i := range api.MaxWords {
		own += fmt.Sprintf("define macro w%d { w%d end } => { } end; ", i, i)
		calls += fmt.Sprintf("w%d ", i)
		used += fmt.Sprintf("w%d* ", i)
	}
	all := []api.Interface{with("u", used), with("v", "w0* f g"), with("w", "x*")}
	for _, x := range []struct {
		what, text string
		want       api.Errno
		layer      int
	}{
		{"as many words as may be", "library l; " + own, api.OK, 0},
		{"the same words once more", "library l; use u; use v, prefix: v; " + own, api.OK, 0},
		{"words of a library alone", "library l; use u;", api.OK, 0},
		{"words of two libraries that are the same, and function macros", "library l; use v;" + own[:len(own)/2-20], api.ErrOpen, 2},
		{"a word more", "library l; use u; use w;", api.ErrArg, 2},
		{"a word more than those of the text", "library l; use w; " + own, api.ErrArg, 2},
		{"a word more that is not used", "library l; use w, prefix: w; " + own, api.OK, 0},
		{"a word more, and no library", "use w; " + own + ") let", api.ErrArg, 2},
		{"a word more, and no tokens", "use w; " + own + ") let \"", api.ErrByte, 1},
	} {
		_, l, trouble, e := library.Front(x.text, all)
		if e != x.want || trouble.Layer != x.layer || e == api.ErrArg && trouble.At != 0 || e != api.OK && l != nil {
			t.Errorf("%s: Front = %v, %v; expected %v in layer %d", x.what, trouble, e, x.want, x.layer)
		}
	}
	// Of two macros with the same name the first one says what sort they are.
	for _, x := range []struct {
		text string
		used []api.Interface
		want api.Errno
		at   int
	}{
		{"library l; use a; use b; m() + 1", []api.Interface{with("a", "m"), with("b", "m*")}, api.OK, 0},
		{"library l; use a; use b; m end + 1", []api.Interface{with("a", "m"), with("b", "m*")}, api.ErrStray, 10},
		{"library l; use a; use b; m end + 1", []api.Interface{with("b", "m*"), with("a", "m")}, api.OK, 0},
		{"library l; use a; use b; m() + 1", []api.Interface{with("b", "m*"), with("a", "m")}, api.ErrOpen, 9},
	} {
		_, _, trouble, e := library.Front(x.text, x.used)
		if e != x.want || e != api.OK && trouble != (api.Trouble{Layer: 2, At: x.at}) {
			t.Errorf("Front of %q with %s, %s = %v, %v; expected %v at %d", x.text, macroNames(x.used[0].Macros), macroNames(x.used[1].Macros), trouble, e, x.want, x.at)
		}
	}
}

func TestP6_1FrontErrors(t *testing.T) {
	var many string
	for i := range api.MaxMacros {
		many += fmt.Sprintf("define macro m%d { m%d() } => { } end; ", i, i)
	}
	loop := "define macro m { m(?e:body) } => { m(?e) } end; "
	grow := "define macro g { g(?e:body) } => { g(?e ?e ?e ?e ?e ?e ?e ?e) } end; "
	deep := "define macro d { d(?e:body) } => { d((?e)) } end; "
	used := []api.Interface{with("u", "p* q"), with("v", "")}
	for _, x := range []struct {
		what, text string
		layer, at  int
		want       api.Errno
	}{
		{"a text that is too long", strings.Repeat(" ", api.MaxText+1), 1, 0, api.ErrLong},
		{"a byte that begins no token", "library a; \"", 1, 11, api.ErrByte},
		{"digits that are no integer", "library a; 007 end", 1, 11, api.ErrDigit},
		{"a hash that begins nothing", "library #a; )", 1, 8, api.ErrHash},
		{"a comment without an end", ") /*", 1, 2, api.ErrComment},
		{"too many tokens", strings.Repeat(";", api.MaxTokens+1), 1, api.MaxTokens, api.ErrLong},
		{"a stray token", "library a ; ) begin", 2, 3, api.ErrStray},
		{"a group that is not closed", "library a ; begin define macro end", 2, 3, api.ErrOpen},
		{"groups that are too deep", "let " + strings.Repeat("(", api.MaxDeep+1), 2, api.MaxDeep + 1, api.ErrDeep},
		{"a group of a used word", "library a ; use u ; p ; let", 2, 6, api.ErrOpen},
		{"a macro that is not right", "library a ; define macro m end ; let", 3, 3, api.ErrMacro},
		{"a macro twice", "library a; define macro m { m() } => { } end; define macro m { m() } => { } end; m(1)", 3, 6, api.ErrMacro},
		{"as many macros as may be", "library a; " + many, 0, 0, api.OK},
		{"a macro more", "library a; " + many + "define macro m { m() } => { } end;", 3, 3 + 3*api.MaxMacros, api.ErrMacro},
		{"as many macros as may be, and others that are not used", "library a; use u, prefix: u; " + many, 0, 0, api.OK},
		{"as many macros as may be, and no others", "library a; use v; " + many, 0, 0, api.OK},
		{"as many macros as may be, and others", "library a; use u; " + many, 3, 0, api.ErrMacro},
		{"as many macros as may be, and others, and a call that does not match", "library a; use u; m0(1); " + many, 3, 0, api.ErrMacro},
		{"a call that does not match", "library a; use u; define macro m { m() } => { } end; q(1 2) let", 3, 6, api.ErrMatch},
		{"a call of an own macro that does not match", "library a; define macro m { m() } => { } end; f(m(1), q())", 3, 5, api.ErrMatch},
		{"a call of an inserted macro", "library a; define macro m { m() } => { q(?) } end; use u; m()", 3, 6, api.ErrMatch},
		{"macros without an end", "library a; " + loop + "let; m()", 3, 0, api.ErrMarks},
		{"macros that grow", "library a; " + grow + "let g(1, 2)", 3, 4, api.ErrLarge},
		{"macros that deepen", "library a; " + deep + "f(g, d())", 3, 7, api.ErrLarge},
		{"a token that cannot stand there", "library a ; define", 4, 4, api.ErrParse},
		{"nothing", "", 4, 0, api.ErrParse},
		{"a use at the end", "library a; use u", 4, 5, api.ErrParse},
		{"a stray token behind calls", "library a; use u; q() + )q() q() let", 2, 10, api.ErrStray},
		{"an index in what was expanded", "library a; define macro m { m() } => { 1 + 2 } end; m() let", 4, 6, api.ErrParse},
		{"a reserved word", "library let ; 1", 4, 1, api.ErrReserve},
		{"a source that is not well-formed", "library <a> ; 1", 4, 4, api.ErrForm},
		{"too deep an expression", "library a; " + strings.Repeat("- ", api.MaxDeep) + "1", 4, 4 + api.MaxDeep, api.ErrDeep},
		{"too many expressions", "library a; begin g(1, 1, 1)" + strings.Repeat("; g(1, 1, 1)", 599) + " end", 4, 5404, api.ErrLong},
	} {
		s, own, trouble, e := library.Front(x.text, used)
		if e != x.want || trouble != (api.Trouble{Layer: x.layer, At: x.at}) {
			t.Errorf("%s: Front = %v, %v; expected %v in layer %d at %d", x.what, trouble, e, x.want, x.layer, x.at)
		}
		if e != api.OK && (!isZero(s) || own != nil) {
			t.Errorf("%s: Front has an error, and the source %+v", x.what, s)
		}
		if u, again, e := library.Build(x.text, used); x.want != api.OK && (e != x.want || again != trouble || !isZero(u)) {
			t.Errorf("%s: Build = %v, %v; expected %v, %v", x.what, again, e, trouble, x.want)
		}
	}
}

// TestP6_1Interfaces: errors of interfaces are ahead of all else, and have no Trouble.
func TestP6_1Interfaces(t *testing.T) {
	many := func(n int) []api.Interface {
		var l []api.Interface
		for i := range n {
			l = append(l, with(fmt.Sprint("l", i), ""))
		}
		return l
	}
	wrong := with("w", "end")
	for _, x := range []struct {
		what string
		used []api.Interface
		want api.Errno
	}{
		{"none", nil, api.OK},
		{"as many as may be", many(api.MaxLibs), api.OK},
		{"one more", many(api.MaxLibs + 1), api.ErrLong},
		{"one more, and one that is not valid", append(many(api.MaxLibs), wrong), api.ErrLong},
		{"a zero one", []api.Interface{{}}, api.ErrInterface},
		{"one that is not valid behind others", append(many(3), wrong), api.ErrInterface},
		{"one that is not valid, ahead of two with the same Lib", append([]api.Interface{wrong}, slices.Repeat(many(1), 2)...), api.ErrInterface},
		{"one that is not valid, behind two with the same Lib", append(slices.Repeat(many(1), 2), wrong), api.ErrInterface},
		{"two with the same Lib", append(many(3), with("l1", "m")), api.ErrTwin},
		{"one twice", slices.Repeat(many(1), 2), api.ErrTwin},
	} {
		for _, text := range []string{"library x;", "library x; use l0; 1", "\"", "begin", "library x; use none;"} {
			l, e := library.Uses(text, x.used)
			if x.want != api.OK && (e != x.want || l != nil) {
				t.Errorf("%s: Uses of %q = %v, %v; expected %v", x.what, text, l, e, x.want)
			}
			s, own, trouble, e := library.Front(text, x.used)
			if x.want != api.OK && (e != x.want || trouble != (api.Trouble{}) || own != nil || !isZero(s)) {
				t.Errorf("%s: Front of %q = %v, %v; expected %v", x.what, text, trouble, e, x.want)
			}
			u, trouble, e := library.Build(text, x.used)
			if x.want != api.OK && (e != x.want || trouble != (api.Trouble{}) || !isZero(u)) {
				t.Errorf("%s: Build of %q = %v, %v; expected %v", x.what, text, trouble, e, x.want)
			}
			if text == "library x;" && x.want == api.OK && e != api.OK {
				t.Errorf("%s: Build of %q = %v", x.what, text, e)
			}
		}
		for _, own := range [][]api.Macro{nil, {{}}, macros(1)} {
			for _, s := range []api.Source{{}, {Name: "x"}, {Name: "x", Patch: true}} {
				if u, e := library.Compile(s, own, x.used); x.want != api.OK && (e != x.want || !isZero(u)) {
					t.Errorf("%s: Compile = %v; expected %v", x.what, e, x.want)
				}
			}
		}
	}
}
