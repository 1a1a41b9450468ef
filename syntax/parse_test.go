package syntax_test

import (
	"fmt"
	"strconv"
	"strings"
	"testing"

	"skerry/api"
	"skerry/fragment"
	"skerry/lex"
	"skerry/syntax"
)

// scan returns the tokens of a text.
func scan(t *testing.T, text string) []api.Token {
	t.Helper()
	l, at, e := lex.Scan(text)
	if e != api.OK {
		t.Fatalf("Scan(%.60q) = %d, %v", text, at, e)
	}
	return l
}

// marked returns the tokens of a text, in which a name may have a mark behind a ' (x'3).
func marked(t *testing.T, text string) []api.Token {
	t.Helper()
	var l []api.Token
	for _, word := range strings.Fields(text) {
		name, mark, is := strings.Cut(word, "'")
		part := scan(t, name)
		if is {
			n, err := strconv.Atoi(mark)
			if err != nil || len(part) != 1 {
				t.Fatalf("%q has no mark", word)
			}
			part[0].Mark = n
		}
		l = append(l, part...)
	}
	return l
}

// expr parses an expression.
func expr(t *testing.T, text string) api.Expr {
	t.Helper()
	x, at, e := syntax.ParseExpr(marked(t, text))
	if at != 0 || e != api.OK {
		t.Fatalf("ParseExpr(%.200q) = %d, %v", text, at, e)
	}
	return x
}

// source parses a source.
func source(t *testing.T, text string) api.Source {
	t.Helper()
	s, at, e := syntax.ParseTokens(marked(t, text))
	if at != 0 || e != api.OK {
		t.Fatalf("ParseTokens(%.200q) = %d, %v", text, at, e)
	}
	return s
}

// exactly reports whether two values are equal, where a nil list is an empty one.
func exactly(a, b any) bool { return fmt.Sprintf("%+v", a) == fmt.Sprintf("%+v", b) }

// show writes an expression as a list of its kind, the fields that it uses, and its Args.
func show(e api.Expr) string {
	l := []string{""}
	switch e.Kind {
	case api.ExNum:
		return strconv.Itoa(e.Num)
	case api.ExBool:
		return []string{"#f", "#t"}[e.Num]
	case api.ExVar:
		return e.Name
	case api.ExCall:
		l[0] = "call"
	case api.ExIf:
		l[0] = "if"
	case api.ExLet:
		l = []string{"let", e.Name}
	case api.ExSeq:
		l[0] = "seq"
	case api.ExFn:
		l = []string{"fn" + e.Name, showParams(e.Params)}
	case api.ExBlock:
		l[0] = "block" + e.Name
	case api.ExHandle:
		l = []string{"handle", showType(e.Type)}
	case api.ExNext:
		l[0] = "next"
	case api.ExMake:
		l = []string{"make", fmt.Sprint(e.Keys)}
	case api.ExPrim:
		l[0] = e.Name
	case api.ExIs:
		l = []string{"is", showType(e.Type)}
	case api.ExLoad:
		l = []string{"load", strconv.Itoa(e.Num)}
	default:
		return fmt.Sprintf("%+v", e)
	}
	for _, a := range e.Args {
		l = append(l, show(a))
	}
	return "(" + strings.Join(l, " ") + ")"
}

func showType(t api.Type) string {
	switch t.Kind {
	case api.TyClass:
		return t.Name
	case api.TyInt:
		return fmt.Sprintf("%d..%d", t.Lo, t.Hi)
	case api.TyBool:
		return []string{"#f", "#t"}[t.Lo]
	case api.TySub:
		return "sub:" + t.Name
	case api.TyUnion:
		var l []string
		for _, a := range t.Args {
			l = append(l, showType(a))
		}
		return "{" + strings.Join(l, " ") + "}"
	}
	return fmt.Sprintf("%+v", t)
}

func showParams(params []api.Param) string {
	var l []string
	for _, p := range params {
		text := p.Name
		if showType(p.Type) != "<object>" {
			text += ":" + showType(p.Type)
		}
		l = append(l, text)
	}
	return "[" + strings.Join(l, " ") + "]"
}

func TestP4_1Expressions(t *testing.T) {
	for _, x := range []struct{ text, want string }{
		{"1", "1"},
		{"-1", "-1"},
		{"- 1", "(- 0 1)"},
		{"9223372036854775807", "9223372036854775807"},
		{"-9223372036854775808", "-9223372036854775808"},
		{"#t", "#t"},
		{"#f", "#f"},
		{"x", "x"},
		{"<a>", "<a>"},
		{"x@l", "x@l"},
		{"x@3", "x@3"},
		{"let@1", "let@1"},
		{"(x)", "x"},
		{"((x))", "x"},

		{"f()", "(call f)"},
		{"f(a)", "(call f a)"},
		{"f(a, b)", "(call f a b)"},
		{"f(a)(b)()", "(call (call (call f a) b))"},
		{"(f)(a)", "(call f a)"},
		{"1(#t)", "(call 1 #t)"},
		{"f((a, b))", "ErrParse 4"},
		{"a.b", "(call b a)"},
		{"a.b.c", "(call c (call b a))"},
		{"a.b(c)", "(call (call b a) c)"},
		{"f(x).y + 1", "(+ (call y (call f x)) 1)"},
		{"if (a) b end.c", "(call c (if a b #f))"},
		{"begin f end(x)", "(call f x)"},
		{"method (x) x end(3)", "(call (fn [x] x) 3)"},
		{"1.x", "(call x 1)"},

		{"p.x := 3", "(call x-setter 3 p)"},
		{"x(p) := 3", "(call x-setter 3 p)"},
		{"x() := 3", "(call x-setter 3)"},
		{"(x(p)) := 3", "(call x-setter 3 p)"},
		{"x(p, q, r) := 3", "(call x-setter 3 p q r)"},
		{"p.x := q.y := r", "(call x-setter (call y-setter r q) p)"},
		{"(p.x := 3) := 4", "(call x-setter-setter 4 3 p)"},
		{"p.x@l := 3", "(call x-setter@l 3 p)"},
		{"p.x := a & b", "(call x-setter (if a b #f) p)"},
		{"f(p.x := 1, 2)", "(call f (call x-setter 1 p) 2)"},
		{"p.a.b := 1", "(call b-setter 1 (call a p))"},

		{"a + b", "(+ a b)"},
		{"a - b - c", "(- (- a b) c)"},
		{"a - (b - c)", "(- a (- b c))"},
		{"a * b + c * d", "(+ (* a b) (* c d))"},
		{"a / b / c", "(quotient (quotient a b) c)"},
		{"a * b / c * d", "(* (quotient (* a b) c) d)"},
		{"a + b * c - d", "(- (+ a (* b c)) d)"},
		{"a < b + 1", "(< a (+ b 1))"},
		{"a < b < c", "(< (< a b) c)"},
		{"a = b", "(= a b)"},
		{"a == b", "(== a b)"},
		{"a > b", "(> a b)"},
		{"a <= b", "(<= a b)"},
		{"a >= b", "(>= a b)"},
		{"a = b & c", "(if (= a b) c #f)"},
		{"a & b & c", "(if (if a b #f) c #f)"},
		{"a | b", "(let %| a (if %| %| b))"},
		{"a | b | c", "(let %| (let %| a (if %| %| b)) (if %| %| c))"},
		{"a | (b | c)", "(let %| a (if %| %| (let %| b (if %| %| c))))"},
		{"a & b | c", "(let %| (if a b #f) (if %| %| c))"},
		{"a | b & c", "(if (let %| a (if %| %| b)) c #f)"},
		{"a = b | c = d", "(let %| (= a b) (if %| %| (= c d)))"},
		{"- a", "(- 0 a)"},
		{"- a.b", "(- 0 (call b a))"},
		{"- a * b", "(* (- 0 a) b)"},
		{"~ a", "(not a)"},
		{"~ ~ a", "(not (not a))"},
		{"- ~ a", "(- 0 (not a))"},
		{"~ a = b", "(= (not a) b)"},
		{"1 - - 2", "(- 1 (- 0 2))"},
		{"1 - -2", "(- 1 -2)"},
		{"1 -2", "(- 1 2)"},
		{"a * ~ b", "(* a (not b))"},

		{"if (a) 1 end", "(if a 1 #f)"},
		{"if (a) end", "(if a #f #f)"},
		{"if (a) 1 else 2 end", "(if a 1 2)"},
		{"if (a) else end", "(if a #f #f)"},
		{"if (a) else 2 end", "(if a #f 2)"},
		{"if (a) 1; 2 else 3; 4; end", "(if a (seq 1 2) (seq 3 4))"},
		{"if (a) 1 elseif (b) 2 end", "(if a 1 (if b 2 #f))"},
		{"if (a) 1 elseif (b) 2 elseif (c) 3 else 4 end", "(if a 1 (if b 2 (if c 3 4)))"},
		{"if (a) let x = 1; x elseif (b) let y = 2 else let z = 3; z end", "(if a (let x 1 x) (if b (let y 2 #f) (let z 3 z)))"},

		{"begin end", "#f"},
		{"begin a end", "a"},
		{"begin a; end", "a"},
		{"begin a; b end", "(seq a b)"},
		{"begin a; b; c; end", "(seq a b c)"},
		{"begin begin a; b end end", "(seq a b)"},
		{"begin begin a; b end; c end", "(seq (seq a b) c)"},
		{"begin a; begin b; c end end", "(seq a (seq b c))"},
		{"begin let x = 1 end", "(let x 1 #f)"},
		{"begin let x = 1; end", "(let x 1 #f)"},
		{"begin let x = 1; x end", "(let x 1 x)"},
		{"begin let x = 1; x; y end", "(let x 1 (seq x y))"},
		{"begin a; let b = c; d(b) end", "(seq a (let b c (call d b)))"},
		{"begin a; b; let c = 1; d; let e = 2; f end", "(seq a b (let c 1 (seq d (let e 2 f))))"},
		{"begin begin let x = 1; x end; y end", "(seq (let x 1 x) y)"},
		{"begin let handler <e> = h end", "(handle <e> h #f)"},
		{"begin let handler <e> = h; a; b end", "(handle <e> h (seq a b))"},
		{"begin a; let handler type-union(<e>, limited(1, 2)) = h; b end", "(seq a (handle {<e> 1..2} h b))"},
		{"begin local method f () 1 end end", "(let f (fnf [] 1) #f)"},
		{"begin local method f (x) f(x) end; f(1); 2 end", "(let f (fnf [x] (call f x)) (seq (call f 1) 2))"},
		{"begin let f = method () 1 end; f end", "(let f (fn [] 1) f)"},
		{"begin let p.x = 1 end", "ErrParse 3"},
		{"begin p.x := 1; 2 end", "(seq (call x-setter 1 p) 2)"},
		{"begin let x = p.y := 1; x end", "(let x (call y-setter 1 p) x)"},

		{"method () end", "(fn [] #f)"},
		{"method (x) x end", "(fn [x] x)"},
		{"method (x, y) x; y end", "(fn [x y] (seq x y))"},
		{"method (x :: <a>, y == 3, z == #t, u :: subclass(<b>)) 1 end", "(fn [x:<a> y:3..3 z:#t u:sub:<b>] 1)"},
		{"method (x == -3, y == #f) 1 end", "(fn [x:-3..-3 y:#f] 1)"},

		{"block () a end", "(block a)"},
		{"block () end", "(block #f)"},
		{"block (k) k(1) end", "(blockk (call k 1))"},
		{"block (k) a; b cleanup c; d end", "(blockk (seq a b) (seq c d))"},
		{"block () cleanup end", "(block #f #f)"},
		{"block () let x = 1; x cleanup let y = 2 end", "(block (let x 1 x) (let y 2 #f))"},

		{"next-method()", "(next)"},
		{"next-method(a, b)", "(next a b)"},
		{"make(<a>)", "(make [] <a>)"},
		{"make(c, x: 1, y: f(2))", "(make [x y] c 1 (call f 2))"},
		{"make(c, end: 1)", "(make [end] c 1)"},
		{"instance?(a, <b>)", "(is <b> a)"},
		{"instance?(a := b, singleton(3))", "ErrParse 3"},
		{"instance?(a.b := c, singleton(3))", "(is 3..3 (call b-setter c a))"},
		{"load-patch(0)", "(load 0)"},
		{"load-patch(9223372036854775807)", "(load 9223372036854775807)"},
		{"print(a)", "(print a)"},
		{"signal(a)", "(signal a)"},
		{"object-class(a)", "(class-of a)"},
		{"quotient(a, b)", "(quotient a b)"},
		{"print(print(1)) + 2", "(+ (print (print 1)) 2)"},
	} {
		got := ""
		e, at, err := syntax.ParseExpr(scan(t, x.text))
		switch {
		case err == api.ErrParse && exactly(e, api.Expr{}):
			got = fmt.Sprintf("ErrParse %d", at)
		case err != api.OK || at != 0:
			got = fmt.Sprint(at, err)
		default:
			got = show(e)
		}
		if got != x.want {
			t.Errorf("ParseExpr(%q) = %s; expected %s", x.text, got, x.want)
		}
	}
}

func TestP4_1Types(t *testing.T) {
	for _, x := range []struct{ text, want string }{
		{"<a>", "<a>"},
		{"a@l", "a@l"},
		{"limited(0, 9)", "0..9"},
		{"limited(-9, -9)", "-9..-9"},
		{"singleton(7)", "7..7"},
		{"singleton(-7)", "-7..-7"},
		{"singleton(#t)", "#t"},
		{"singleton(#f)", "#f"},
		{"subclass(<a>)", "sub:<a>"},
		{"type-union()", "{}"},
		{"type-union(<a>)", "{<a>}"},
		{"type-union(<a>, limited(0, 9))", "{<a> 0..9}"},
		{"type-union(type-union(), singleton(1), subclass(b))", "{{} 1..1 sub:b}"},
	} {
		y, at, e := syntax.ParseType(scan(t, x.text))
		if at != 0 || e != api.OK || showType(y) != x.want {
			t.Errorf("ParseType(%q) = %s, %d, %v; expected %s", x.text, showType(y), at, e, x.want)
		}
	}
}

// object is the type of what has no type.
func object() api.Type { return api.Type{Kind: api.TyClass, Name: "<object>"} }

func class(name string) api.Type { return api.Type{Kind: api.TyClass, Name: name} }

func num(n int) api.Expr { return api.Expr{Kind: api.ExNum, Num: n} }

func name(s string) api.Expr { return api.Expr{Kind: api.ExVar, Name: s} }

func TestP4_1Uses(t *testing.T) {
	for _, x := range []struct {
		text string
		want api.Source
	}{
		{"library a;", api.Source{Name: "a"}},
		{"patch a;", api.Source{Name: "a", Patch: true}},
		{"library a-1; use b;", api.Source{Name: "a-1", Uses: []api.Use{{Lib: "b", All: true}}}},
		{"library a; use b, prefix: b_; use c, import: {d, e => f, <g> => h, i => i}; use j;", api.Source{Name: "a", Uses: []api.Use{
			{Lib: "b", All: true, Prefix: "b_"},
			{Lib: "c", Names: []api.Rename{{From: "d", To: "d"}, {From: "e", To: "f"}, {From: "<g>", To: "h"}, {From: "i", To: "i"}}},
			{Lib: "j", All: true},
		}}},
		{"library a; export b;", api.Source{Name: "a", Exports: []string{"b"}}},
		{"library a; use b; export <c>, d;", api.Source{Name: "a", Uses: []api.Use{{Lib: "b", All: true}}, Exports: []string{"<c>", "d"}}},
		{"library a; 1", api.Source{Name: "a", Main: []api.Expr{num(1)}}},
		{"library a; x;", api.Source{Name: "a", Main: []api.Expr{name("x")}}},
	} {
		if s, at, e := syntax.ParseTokens(scan(t, x.text)); !exactly(s, x.want) || at != 0 || e != api.OK {
			t.Errorf("ParseTokens(%q) = %+v, %d, %v; expected %+v", x.text, s, at, e, x.want)
		}
	}
}

func TestP4_1Definitions(t *testing.T) {
	classDef := func(c api.ClassDef) []api.Def { return []api.Def{{Kind: api.DfClass, Class: c}} }
	generic := func(g api.GenericDef) []api.Def { return []api.Def{{Kind: api.DfGeneric, Generic: g}} }
	method := func(m api.MethodDef) []api.Def { return []api.Def{{Kind: api.DfMethod, Method: m}} }
	domain := func(d api.DomainDef) api.Def { return api.Def{Kind: api.DfDomain, Domain: d} }
	no := api.Expr{Kind: api.ExBool}
	union := api.Type{Kind: api.TyUnion, Args: []api.Type{class("<c>"), {Kind: api.TyInt, Lo: 1, Hi: 2}}}
	for _, x := range []struct {
		text string
		want []api.Def
	}{
		{"class <a> (<b>) end", classDef(api.ClassDef{Name: "<a>", Supers: []string{"<b>"}})},
		{"abstract class a (b, c@l, b) end", classDef(api.ClassDef{Name: "a", Supers: []string{"b", "c@l", "b"}, Abstract: true})},
		{"sealed class a (b) end", classDef(api.ClassDef{Name: "a", Supers: []string{"b"}, Sealed: true})},
		{"abstract sealed class a (b) end", classDef(api.ClassDef{Name: "a", Supers: []string{"b"}, Abstract: true, Sealed: true})},
		{"class a (b) slot x; class slot y; each-subclass slot z :: <c>; virtual slot u; end", classDef(api.ClassDef{Name: "a", Supers: []string{"b"}, Slots: []api.Slot{
			{Name: "x", Type: object(), Alloc: api.SlInst},
			{Name: "y", Type: object(), Alloc: api.SlClass},
			{Name: "z", Type: class("<c>"), Alloc: api.SlEach},
			{Name: "u", Type: object(), Alloc: api.SlVirt},
		}})},
		{"class a (b) slot x :: type-union(<c>, limited(1, 2)), init-keyword: k:, init-value: 1; end", classDef(api.ClassDef{Name: "a", Supers: []string{"b"}, Slots: []api.Slot{
			{Name: "x", Type: union, Alloc: api.SlInst, Key: "k", Init: []api.Expr{num(1)}},
		}})},
		{"class a (b) slot x, init-value: 1, init-keyword: k:, init-value: 2, init-keyword: init-value:; end", classDef(api.ClassDef{Name: "a", Supers: []string{"b"}, Slots: []api.Slot{
			{Name: "x", Type: object(), Alloc: api.SlInst, Key: "init-value", Init: []api.Expr{num(2)}},
		}})},
		{"generic f ()", generic(api.GenericDef{Name: "f"})},
		{"generic f (a)", generic(api.GenericDef{Name: "f", Arity: 1})},
		{"sealed generic f (a, b, a, c, d, e)", generic(api.GenericDef{Name: "f", Arity: 6, Sealed: true})},
		{"method f () end", method(api.MethodDef{Generic: "f", Result: object(), Body: no})},
		{"method f@l (x :: <a>, y == 1) => <b> x; y end", method(api.MethodDef{Generic: "f@l", Params: []api.Param{{Name: "x", Type: class("<a>")}, {Name: "y", Type: api.Type{Kind: api.TyInt, Lo: 1, Hi: 1}}},
			Result: class("<b>"), Body: api.Expr{Kind: api.ExSeq, Args: []api.Expr{name("x"), name("y")}}})},
		{"method f () => <b> (1) end", method(api.MethodDef{Generic: "f", Result: class("<b>"), Body: num(1)})},
		{"method f () => subclass(<b>) (1) end", method(api.MethodDef{Generic: "f", Result: api.Type{Kind: api.TySub, Name: "<b>"}, Body: num(1)})},
		{"method f () (1) end", method(api.MethodDef{Generic: "f", Result: object(), Body: num(1)})},
		{"sealed method f (x, y :: type-union(<c>, limited(1, 2))) => <b> 1 end", append(method(api.MethodDef{Generic: "f", Params: []api.Param{{Name: "x", Type: object()}, {Name: "y", Type: union}}, Result: class("<b>"), Body: num(1)}),
			domain(api.DomainDef{Generic: "f", Types: []api.Type{object(), union}}))},
		{"sealed method f () 1 end", append(method(api.MethodDef{Generic: "f", Result: object(), Body: num(1)}), domain(api.DomainDef{Generic: "f"}))},
		{"sealed domain f ()", []api.Def{domain(api.DomainDef{Generic: "f"})}},
		{"sealed domain f@l (<a>, singleton(#t))", []api.Def{domain(api.DomainDef{Generic: "f@l", Types: []api.Type{class("<a>"), {Kind: api.TyBool, Lo: 1}}})}},
		{"constant x = 1", []api.Def{{Kind: api.DfConst, Name: "x", Body: num(1)}}},
		{"constant x = -1", []api.Def{{Kind: api.DfConst, Name: "x", Body: num(-1)}}},
	} {
		want := api.Source{Name: "l", Defs: x.want}
		if s, at, e := syntax.ParseTokens(scan(t, "library l; define "+x.text+";")); !exactly(s, want) || at != 0 || e != api.OK {
			t.Errorf("ParseTokens(%q) = %+v, %d, %v; expected %+v", x.text, s, at, e, want)
		}
		// One behind the other, in a patch, with a main expression that a patch may not have.
		text := "patch l; define " + x.text + "; define constant c = 2; define " + x.text + "; 3"
		if s, at, e := syntax.ParseTokens(scan(t, text)); len(s.Defs) != 0 || at != len(scan(t, text)) || e != api.ErrForm {
			t.Errorf("ParseTokens(%q) = %+v, %d, %v; expected ErrForm", text, s, at, e)
		}
		text = strings.TrimSuffix(text, "3")
		if s := source(t, text); !exactly(s.Defs[:len(x.want)], x.want) || !exactly(s.Defs[len(x.want)+1:], x.want) {
			t.Errorf("ParseTokens(%q) = %+v", text, s)
		}
	}
}

// TestP4_1NewMemory: no two types of a sealed method and of its domain share memory.
func TestP4_1NewMemory(t *testing.T) {
	s := source(t, "library l; define sealed method f (x :: type-union(type-union(<a>), <b>)) x end;")
	s.Defs[1].Domain.Types[0].Args[1].Name = "<c>"
	s.Defs[1].Domain.Types[0].Args[0].Args[0].Name = "<d>"
	if got := showParams(s.Defs[0].Method.Params); got != "[x:{{<a>} <b>}]" {
		t.Errorf("a change of the domain changes the method to %s", got)
	}
}

// TestP4_1Parse: Parse is ParseTokens of Flat.
func TestP4_1Parse(t *testing.T) {
	text := "library a; define method f (x) if (x) [1] else 2 end end method f; f(#t)"
	l, _, e := fragment.Read(scan(t, text), nil)
	if e != api.OK {
		t.Fatal(e)
	}
	if s, at, e := syntax.Parse(l); !exactly(s, api.Source{}) || at != 13 || e != api.ErrParse {
		t.Errorf("Parse of %q = %+v, %d, %v; expected ErrParse and 13", text, s, at, e)
	}
	text = strings.ReplaceAll(text, "[1]", "(1)")
	l, _, _ = fragment.Read(scan(t, text), nil)
	s, at, e := syntax.Parse(l)
	if want := source(t, strings.ReplaceAll(text, " method f;", ";")); !exactly(s, want) || at != 0 || e != api.OK {
		t.Errorf("Parse of %q = %+v, %d, %v; expected %+v", text, s, at, e, want)
	}
	if s, at, e := syntax.Parse(nil); !exactly(s, api.Source{}) || at != 0 || e != api.ErrParse {
		t.Errorf("Parse of nothing = %+v, %d, %v; expected ErrParse and 0", s, at, e)
	}
	// What is too long, or too deep, has no tokens.
	long := make([]api.Frag, api.MaxTokens+1)
	for i := range long {
		long[i] = api.Frag{Tok: api.Token{Kind: api.TkName, Text: "x"}}
	}
	if s, at, e := syntax.Parse(long); !exactly(s, api.Source{}) || at != 0 || e != api.ErrParse {
		t.Errorf("Parse of too many fragments = %+v, %d, %v; expected ErrParse and 0", s, at, e)
	}
}

func TestP4_1Errors(t *testing.T) {
	const parse, reserve = api.ErrParse, api.ErrReserve
	for _, x := range []struct {
		text string
		at   int
		want api.Errno
	}{
		{"", 0, parse},
		{"let", 0, reserve},
		{"macro", 0, reserve},
		{"handler", 0, reserve},
		{"end", 0, reserve},
		{"else", 0, reserve},
		{"x:", 0, parse},
		{"?x", 0, parse},
		{"[", 0, parse},
		{"+ 1", 0, parse},
		{"1 := 2", 1, parse},
		{"x := 2", 1, parse},
		{"- p.x := 2", 4, parse},
		{"a + p.x := 2", 5, parse},
		{"a & p.x := 2", 5, parse},
		{"~ f(x) := 2", 5, parse},
		{"f(x)(y) := 2", 7, parse},
		{"next-method() := 2", 3, parse},
		{"print(x) := 2", 4, parse},
		{"if (a) p.x end := 2", 8, parse},
		{"begin p.x end := 2", 5, api.OK},
		{"(p.x) := 2", 5, api.OK},
		{"p.abcdefghijklmnopqrstuvwxyz-abcdef := 2", 3, api.OK},   // the setter has 40 bytes
		{"p.abcdefghijklmnopqrstuvwxyz-abcdefg := 2", 3, parse},   // 41
		{"p.abcdefghijklmnopqrstuvwxyz@abcdef := 2", 3, api.OK},   // 40
		{"p.abcdefghijklmnopqrstuvwxyz@abcdefg := let", 3, parse}, // 41
		{"a b", 1, parse},
		{"a let", 1, parse},
		{"a end", 1, parse},
		{"a ;", 1, parse},
		{"a )", 1, parse},
		{"a +", 2, parse},
		{"a + let", 2, reserve},
		{"a + )", 2, parse},
		{"- let", 1, reserve},
		{"-", 1, parse},
		{"~ + 1", 1, parse},
		{"f(", 2, parse},
		{"f(let", 2, reserve},
		{"f(a", 3, parse},
		{"f(a let", 3, parse},
		{"f(a,", 4, parse},
		{"f(a, )", 4, parse},
		{"f(a, let)", 4, reserve},
		{"f(, a)", 2, parse},
		{"f(a; b)", 3, parse},
		{"f(a: 1)", 2, parse},
		{"a.", 2, parse},
		{"a.1", 2, parse},
		{"a.let", 2, reserve},
		{"a.(b)", 2, parse},
		{"a.b:", 2, parse},
		{"(", 1, parse},
		{"()", 1, parse},
		{"(a", 2, parse},
		{"(a b)", 2, parse},
		{"(a; b)", 2, parse},

		{"if a", 1, parse},
		{"if ()", 2, parse},
		{"if (let)", 2, reserve},
		{"if (a) 1", 5, parse},
		{"if (a) 1 else", 6, parse},
		{"if (a) 1 else 2", 7, parse},
		{"if (a) 1 else 2 else 3 end", 7, parse},
		{"if (a) 1 else 2 elseif (b) 3 end", 7, parse},
		{"if (a) 1 elseif b", 6, parse},
		{"if (a) cleanup", 4, reserve},
		{"if (a) 1 cleanup", 5, parse},
		{"if (a) else else", 5, reserve},
		{"elseif", 0, reserve},
		{"if (a) ) end", 4, parse},

		{"begin", 1, parse},
		{"begin ; end", 1, parse},
		{"begin a ; ; end", 3, parse},
		{"begin a b end", 2, parse},
		{"begin a let x = 1 end", 2, parse},
		{"begin slot end", 1, reserve},
		{"begin else end", 1, reserve},
		{"begin a ; else end", 3, reserve},
		{"begin a else end", 2, parse},
		{"begin a )", 2, parse},
		{"begin let", 2, parse},
		{"begin let 1 = 2 end", 2, parse},
		{"begin let let = 2 end", 2, reserve},
		{"begin let method = 2 end", 2, reserve},
		{"begin let x end", 3, parse},
		{"begin let x == 2 end", 3, parse},
		{"begin let x = end", 4, reserve},
		{"begin let x = ; end", 4, parse},
		{"begin let x = 1 y end", 5, parse},
		{"begin let handler", 3, parse},
		{"begin let handler = h end", 3, parse},
		{"begin let handler let = h end", 3, reserve},
		{"begin let handler <e> h end", 4, parse},
		{"begin let handler limited(1) = h end", 6, parse},
		{"begin local", 2, parse},
		{"begin local x = 1 end", 2, parse},
		{"begin local let x = 1 end", 2, parse},
		{"begin local method", 3, parse},
		{"begin local method (x) x end end", 3, parse},
		{"begin local method if () x end end", 3, reserve},
		{"begin local method f x end end", 4, parse},
		{"begin local method f () x end x end", 8, parse},
		{"let x = 1", 0, reserve},

		{"method", 1, parse},
		{"method f () 1 end", 1, parse},
		{"method (1) 1 end", 2, parse},
		{"method (let) 1 end", 2, reserve},
		{"method (x y) 1 end", 3, parse},
		{"method (x,) 1 end", 4, parse},
		{"method (x, let) 1 end", 4, reserve},
		{"method (x ::) 1 end", 4, parse},
		{"method (x :: let) 1 end", 4, reserve},
		{"method (x = 1) 1 end", 3, parse},
		{"method (x == y) 1 end", 4, parse},
		{"method (x == let) 1 end", 4, parse},
		{"method (x == - 1) 1 end", 4, parse},
		{"method (x) 1", 5, parse},
		{"method (x) => <b> 1 end", 4, parse},
		{"method (x :: singleton(x)) 1 end", 6, parse},

		{"block a end", 1, parse},
		{"block (1) a end", 2, parse},
		{"block (let) a end", 2, reserve},
		{"block (a b) a end", 3, parse},
		{"block (a) a else b end", 5, parse},
		{"block (a) a cleanup b cleanup c end", 7, parse},
		{"block (a) a cleanup b", 7, parse},

		{"next-method", 1, parse},
		{"next-method(let)", 2, reserve},
		{"next-method(a", 3, parse},
		{"make", 1, parse},
		{"make()", 2, parse},
		{"make(c, 1)", 4, parse},
		{"make(c, k)", 4, parse},
		{"make(c, let)", 4, parse},
		{"make(c, k:)", 5, parse},
		{"make(c, k: let)", 5, reserve},
		{"make(c k: 1)", 3, parse},
		{"make(c, k: 1", 6, parse},
		{"make(k: 1)", 2, parse},
		{"instance?(a)", 3, parse},
		{"instance?(a, 1)", 4, parse},
		{"instance?(a, let)", 4, reserve},
		{"instance?(a, b, c)", 5, parse},
		{"load-patch()", 2, parse},
		{"load-patch(x)", 2, parse},
		{"load-patch(let)", 2, parse},
		{"load-patch(1", 3, parse},
		{"print()", 2, parse},
		{"print(a, b)", 3, parse},
		{"signal a", 1, parse},
		{"object-class(a", 3, parse},
		{"quotient(a)", 3, parse},
		{"quotient(a, b, c)", 5, parse},
		{"quotient", 1, parse},
	} {
		y, at, e := syntax.ParseExpr(scan(t, x.text))
		if x.want == api.OK && e == api.OK {
			continue
		}
		if !exactly(y, api.Expr{}) || at != x.at || e != x.want {
			t.Errorf("ParseExpr(%q) = %+v, %d, %v; expected %d, %v", x.text, y, at, e, x.at, x.want)
		}
	}
}

func TestP4_1TypeErrors(t *testing.T) {
	for _, x := range []struct {
		text string
		at   int
		want api.Errno
	}{
		{"", 0, api.ErrParse},
		{"1", 0, api.ErrParse},
		{"let", 0, api.ErrReserve},
		{"<a> <b>", 1, api.ErrParse},
		{"(<a>)", 0, api.ErrParse},
		{"limited", 1, api.ErrParse},
		{"limited(1)", 3, api.ErrParse},
		{"limited(1, x)", 4, api.ErrParse},
		{"limited(x, 1)", 2, api.ErrParse},
		{"limited(1, 2, 3)", 5, api.ErrParse},
		{"limited(- 1, 2)", 2, api.ErrParse},
		{"singleton()", 2, api.ErrParse},
		{"singleton(x)", 2, api.ErrParse},
		{"singleton(1, 2)", 3, api.ErrParse},
		{"subclass()", 2, api.ErrParse},
		{"subclass(1)", 2, api.ErrParse},
		{"subclass(let)", 2, api.ErrReserve},
		{"subclass(limited(1, 2))", 2, api.ErrReserve},
		{"subclass(a, b)", 3, api.ErrParse},
		{"type-union", 1, api.ErrParse},
		{"type-union(", 2, api.ErrParse},
		{"type-union(1)", 2, api.ErrParse},
		{"type-union(let)", 2, api.ErrReserve},
		{"type-union(a", 3, api.ErrParse},
		{"type-union(a,)", 4, api.ErrParse},
		{"type-union(a b)", 3, api.ErrParse},
		{"limited(2, 1)", 6, api.ErrForm},
	} {
		if y, at, e := syntax.ParseType(scan(t, x.text)); !exactly(y, api.Type{}) || at != x.at || e != x.want {
			t.Errorf("ParseType(%q) = %+v, %d, %v; expected %d, %v", x.text, y, at, e, x.at, x.want)
		}
	}
}

func TestP4_1SourceErrors(t *testing.T) {
	const parse, reserve, form = api.ErrParse, api.ErrReserve, api.ErrForm
	for _, x := range []struct {
		text string
		at   int
		want api.Errno
	}{
		{"", 0, parse},
		{"a", 0, parse},
		{"let", 0, parse},
		{"define", 0, parse},
		{"library", 1, parse},
		{"library 1;", 1, parse},
		{"library let;", 1, reserve},
		{"patch patch;", 1, reserve},
		{"library a", 2, parse},
		{"library a, b;", 2, parse},
		{"library a; slot", 3, reserve},
		{"library a; ;", 3, parse},
		{"library a; 1 2", 4, parse},
		{"library a; 1; 2", 5, parse},
		{"library a; 1; define constant x = 1;", 5, parse},
		{"library a; 1; ;", 5, parse},
		{"library a; 1 define", 4, parse},
		{"library a; export b; use c;", 6, reserve},
		{"library a; export b; export c;", 6, reserve},
		{"library a; define constant x = 1; use b;", 9, reserve},
		{"library a; define constant x = 1; export b;", 9, reserve},
		{"library a; use", 4, parse},
		{"library a; use 1;", 4, parse},
		{"library a; use let;", 4, reserve},
		{"library a; use b", 5, parse},
		{"library a; use b c;", 5, parse},
		{"library a; use b, c;", 6, parse},
		{"library a; use b, ;", 6, parse},
		{"library a; use b, let;", 6, parse},
		{"library a; use b, prefix;", 6, parse},
		{"library a; use b, suffix: c;", 6, parse},
		{"library a; use b, prefix: 1;", 7, parse},
		{"library a; use b, prefix: let;", 7, reserve},
		{"library a; use b, prefix: c, import: {d};", 8, parse},
		{"library a; use b, import: c;", 7, parse},
		{"library a; use b, import: {};", 8, parse},
		{"library a; use b, import: {let};", 8, reserve},
		{"library a; use b, import: {c => };", 10, parse},
		{"library a; use b, import: {c => if};", 10, reserve},
		{"library a; use b, import: {c = d};", 9, parse},
		{"library a; use b, import: {c, };", 10, parse},
		{"library a; use b, import: {c", 9, parse},
		{"library a; use b, import: {c}", 10, parse},
		{"library a; export ;", 4, parse},
		{"library a; export let;", 4, reserve},
		{"library a; export b, ;", 6, parse},
		{"library a; export b", 5, parse},
		{"library a; define", 4, parse},
		{"library a; define x;", 4, parse},
		{"library a; define slot;", 4, parse},
		{"library a; define domain f ();", 4, parse},
		{"library a; define ;", 4, parse},
		{"library a; define abstract;", 5, parse},
		{"library a; define sealed;", 5, parse},
		{"library a; define abstract generic f ();", 5, parse},
		{"library a; define abstract method f () end;", 5, parse},
		{"library a; define abstract constant x = 1;", 5, parse},
		{"library a; define abstract sealed method f () end;", 6, parse},
		{"library a; define abstract sealed domain f ();", 6, parse},
		{"library a; define abstract abstract class b (c) end;", 5, parse},
		{"library a; define sealed abstract class b (c) end;", 5, parse},
		{"library a; define sealed constant x = 1;", 5, parse},
		{"library a; define sealed x;", 5, parse},

		{"library a; define class 1 (c) end;", 5, parse},
		{"library a; define class if (c) end;", 5, reserve},
		{"library a; define class b end;", 6, parse},
		{"library a; define class b () end;", 7, parse},
		{"library a; define class b (1) end;", 7, parse},
		{"library a; define class b (let) end;", 7, reserve},
		{"library a; define class b (c,) end;", 9, parse},
		{"library a; define class b (c) x end;", 9, parse},
		{"library a; define class b (c) let end;", 9, parse},
		{"library a; define class b (c) class x end;", 10, parse},
		{"library a; define class b (c) slot; end;", 10, parse},
		{"library a; define class b (c) slot slot; end;", 10, reserve},
		{"library a; define class b (c) slot x end;", 11, parse},
		{"library a; define class b (c) slot x = 1; end;", 11, parse},
		{"library a; define class b (c) slot x :: let; end;", 12, reserve},
		{"library a; define class b (c) slot x, y; end;", 12, parse},
		{"library a; define class b (c) slot x, ; end;", 12, parse},
		{"library a; define class b (c) slot x, init-keyword: k; end;", 13, parse},
		{"library a; define class b (c) slot x, init-value: let; end;", 13, reserve},
		{"library a; define class b (c) slot x, init-value: ; end;", 13, parse},
		{"library a; define class b (c) slot x, init: 1; end;", 12, parse},
		{"library a; define class b (c) end", 10, parse},
		{"library a; define class b (c) end class;", 10, parse},
		{"library a; define class b (c)", 9, parse},

		{"library a; define generic 1 ();", 5, parse},
		{"library a; define generic let ();", 5, reserve},
		{"library a; define generic f;", 6, parse},
		{"library a; define generic f (1);", 7, parse},
		{"library a; define generic f (let);", 7, reserve},
		{"library a; define generic f (x :: <a>);", 8, parse},
		{"library a; define generic f (x,);", 9, parse},
		{"library a; define generic f () end;", 8, parse},

		{"library a; define method 1 () end;", 5, parse},
		{"library a; define method let () end;", 5, reserve},
		{"library a; define method f x end;", 6, parse},
		{"library a; define method f () => 1 end;", 9, parse},
		{"library a; define method f () => end;", 9, reserve},
		{"library a; define method f () = <a> 1 end;", 8, parse},
		{"library a; define method f () 1;", 10, parse},
		{"library a; define method f () else end;", 8, reserve},
		{"library a; define method f () 1 end", 10, parse},

		{"library a; define sealed domain 1 ();", 6, parse},
		{"library a; define sealed domain let ();", 6, reserve},
		{"library a; define sealed domain f;", 7, parse},
		{"library a; define sealed domain f (1);", 8, parse},
		{"library a; define sealed domain f (let);", 8, reserve},
		{"library a; define sealed domain f (x", 9, parse},
		{"library a; define constant 1 = 1;", 5, parse},
		{"library a; define constant let = 1;", 5, reserve},
		{"library a; define constant x;", 6, parse},
		{"library a; define constant x = ;", 7, parse},
		{"library a; define constant x = let;", 7, reserve},
		{"library a; define constant x = 1", 8, parse},
		{"library a; define constant x = 1; 1 := 2", 10, parse},

		// What is parsed, but not well-formed: behind the last token.
		{"library a@b;", -1, form},
		{"library <a>;", -1, form},
		{"library a; use b; use b;", -1, form},
		{"library a; use b@c;", -1, form},
		{"library a; export b, b;", -1, form},
		{"library a; export b@c;", -1, form},
		{"library a; define class b@c (d) end;", -1, form},
		{"library a; define class b (d) slot x; slot x; end;", -1, form},
		{"library a; define class b (d) virtual slot x, init-value: 1; end;", -1, form},
		{"library a; define generic f@l ();", -1, form},
		{"library a; define generic f (a, b, c, d, e, f, g);", -1, form},
		{"library a; define method f (x, x) 1 end;", -1, form},
		{"library a; define constant x@l = 1;", -1, form},
		{"library a; load-patch(-1)", -1, form},
		{"library a; make(c, x: 1, y: 2, x: 3)", -1, form},
		{"library a; method (x, y, x) 1 end", -1, form},
		{"patch a; use b;", -1, form},
		{"patch a; export b;", -1, form},
		{"patch a; 1", -1, form},
	} {
		if x.want == form {
			x.at = len(scan(t, x.text))
		}
		if y, at, e := syntax.ParseTokens(scan(t, x.text)); !exactly(y, api.Source{}) || at != x.at || e != x.want {
			t.Errorf("ParseTokens(%q) = %+v, %d, %v; expected %d, %v", x.text, y, at, e, x.at, x.want)
		}
	}
}

// TestP4_1NotValid: a token that is not valid cannot stand anywhere, be it too deep or a reserved word.
func TestP4_1NotValid(t *testing.T) {
	l := scan(t, "library a; use b, prefix: c; export d; define method f (x :: <e>) x + 1 end; if (#t) let y = 2; y else f(-1) end;")
	for i := range l {
		for _, change := range []func(*api.Token){
			func(u *api.Token) { u.Kind = 0 },
			func(u *api.Token) { u.Kind = u.Kind%6 + 1 },
			func(u *api.Token) { u.Num++ },
			func(u *api.Token) { u.At = -1 },
			func(u *api.Token) { u.Mark = -1 },
			func(u *api.Token) { u.Text += " " },
			func(u *api.Token) { *u = api.Token{} },
			func(u *api.Token) { *u = api.Token{Kind: api.TkName, Text: "let", Num: 1} },
		} {
			k := append([]api.Token{}, l...)
			change(&k[i])
			if y, at, e := syntax.ParseTokens(k); !exactly(y, api.Source{}) || at != i || e != api.ErrParse {
				t.Errorf("with the token %v at %d ParseTokens = %+v, %d, %v; expected ErrParse", k[i], i, y, at, e)
			}
		}
	}
}

// TestP4_1MarksElsewhere: Marks do not matter for what is no name in an expression, and no variable.
func TestP4_1MarksElsewhere(t *testing.T) {
	text := "library a; use b, import: {c => d}; export <e>, f; define sealed class <e> (<object>, g@h) class slot x :: limited(1, 2), init-keyword: k:; end; " +
		"define generic f (a); define sealed method f (o :: <e>) => type-union(<e>, subclass(<i>)) make(<e>, k: 1) end; define constant z = instance?(1, <e>); print(2)"
	l := scan(t, text)
	want := source(t, text)
	for i := range l {
		l[i].Mark = 7
	}
	got, at, e := syntax.ParseTokens(l)
	if at != 0 || e != api.OK {
		t.Fatalf("ParseTokens = %d, %v", at, e)
	}
	shown := fmt.Sprintf("%+v", got)
	for _, s := range [][2]string{{"o@7", "o"}, {"<e>@0", "<e>"}} {
		shown = strings.ReplaceAll(shown, s[0], s[1])
	}
	if shown != fmt.Sprintf("%+v", want) {
		t.Errorf("with marks ParseTokens = %s; expected %+v", shown, want)
	}
}
