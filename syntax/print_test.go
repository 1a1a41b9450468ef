package syntax_test

import (
	"fmt"
	"math"
	"slices"
	"strings"
	"testing"

	"skerry/api"
	"skerry/lex"
	"skerry/syntax"
)

// back prints an expression, and fails unless it is parsed back.
func back(t *testing.T, what string, x api.Expr) string {
	t.Helper()
	text, e := syntax.PrintExpr(x)
	if e != api.OK {
		t.Fatalf("%s: PrintExpr of %.300s = %v", what, show(x), e)
	}
	l, at, e := lex.Scan(text)
	if e != api.OK || lex.Join(l) != text {
		t.Fatalf("%s: PrintExpr = %.300q, whose tokens are %.300q, %d, %v", what, text, lex.Join(l), at, e)
	}
	if y, at, e := syntax.ParseExpr(l); at != 0 || e != api.OK || !exactly(x, y) {
		t.Fatalf("%s: PrintExpr of %.300s = %.300q, which is parsed as %.300s, %d, %v", what, show(x), text, show(y), at, e)
	}
	return text
}

// TestP4_2PrintExpr: the trees whose texts would be read in another way if they were written one behind the other.
func TestP4_2PrintExpr(t *testing.T) {
	a, b, c, neg := name("a"), name("b"), name("c"), num(-3)
	for i, x := range []api.Expr{
		prim("-", num(1), prim("-", num(2), num(3))),
		prim("-", prim("-", num(1), num(2)), num(3)),
		prim("+", neg, neg), prim("-", a, neg), prim("*", call(a), neg),
		prim("*", prim("+", a, b), c), prim("+", a, prim("*", b, c)), prim("+", prim("*", a, b), c),
		prim("=", prim("=", a, b), c), prim("=", a, prim("=", b, c)), prim("=", prim("<", a, b), prim("<", b, c)),
		prim("quotient", a, prim("quotient", b, c)), prim("quotient", prim("*", a, b), c), prim("quotient", a, prim("*", b, c)),
		prim("not", prim("not", a)), prim("not", prim("+", a, b)), prim("+", prim("not", a), b), prim("+", a, prim("not", b)),
		prim("not", or(a, b)), or(a, prim("not", b)), or(or(a, b), c), or(a, or(b, c)), or(prim("=", a, b), c), prim("=", or(a, b), c),
		prim("-", num(0), a), prim("-", num(0), neg), prim("-", num(0), num(3)), prim("-", prim("-", num(0), a), b),
		prim("print", or(a, b)), prim("class-of", prim("signal", neg)),
		call(prim("not", a)), call(call(a, b), c), call(neg, neg), call(num(3)), call(or(a, b)), call(iff(a, b, c), c), call(seq(a, b), c), call(fn("", a, "b"), c),
		call(let("x", a, b)), call(prim("print", a)), call(prim("+", a, b), prim("+", a, b)), call(a, fn("", neg)),
		iff(neg, neg, neg), iff(a, iff(b, neg, neg), iff(c, a, iff(a, b, c))), iff(a, b, api.Expr{Kind: api.ExBool}),
		iff(seq(a, b), seq(a, b), let("x", neg, seq(neg, neg))),
		seq(neg, neg), seq(seq(a, b), c), seq(a, seq(b, c)), seq(let("x", a, b), c), seq(a, let("x", b, seq(neg, c))), seq(a, or(b, c)), seq(or(a, b), c),
		seq(a, let("f", fn("f", neg), b)), seq(let("f", fn("f", neg), b), a), seq(prim("+", neg, a), prim("+", neg, a)),
		let("x", neg, neg), let("x", let("y", a, b), let("z", b, c)), let("x", seq(a, b), seq(b, c)), let("x", or(a, b), or(b, c)),
		let("f", fn("", neg), a), let("f", fn("f", neg), seq(neg, b)), let("f", fn("f", let("f", fn("f", a), b), "f", "x"), c),
		fn("", neg), fn("", seq(neg, neg), "a"), fn("", fn("", neg, "b"), "a"), fn("", let("x", neg, neg)),
		{Kind: api.ExBlock, Args: []api.Expr{neg}}, {Kind: api.ExBlock, Name: "k", Args: []api.Expr{neg, neg}}, {Kind: api.ExBlock, Name: "k@1", Args: []api.Expr{seq(neg, a), let("x", neg, a)}},
		{Kind: api.ExHandle, Type: class("<e>"), Args: []api.Expr{neg, neg}}, {Kind: api.ExHandle, Type: unions(2, class("<e>")), Args: []api.Expr{or(a, b), seq(neg, a)}},
		seq(a, api.Expr{Kind: api.ExHandle, Type: class("<e>"), Args: []api.Expr{a, b}}), seq(api.Expr{Kind: api.ExHandle, Type: class("<e>"), Args: []api.Expr{a, b}}, a),
		{Kind: api.ExNext, Args: []api.Expr{neg, neg}}, {Kind: api.ExMake, Args: []api.Expr{neg}}, {Kind: api.ExMake, Keys: []string{"k", "end"}, Args: []api.Expr{a, neg, or(a, b)}},
		{Kind: api.ExIs, Type: api.Type{Kind: api.TyInt, Lo: math.MinInt, Hi: -1}, Args: []api.Expr{neg}}, {Kind: api.ExLoad, Num: math.MaxInt}, num(math.MinInt), num(math.MaxInt),
		call(name("x-setter"), num(1), a), call(name("x-setter@0"), num(1), a), call(name("x@3"), a), let("x@3", name("x@3"), name("x@3")),
	} {
		back(t, fmt.Sprint(i), x)
	}
	for kind, x := range kinds() {
		back(t, fmt.Sprintf("the kind %d", kind), x)
	}
}

// TestP4_2Deep: trees of each kind, as deep as they may be, through each of their Args, are parsed back.
func TestP4_2Deep(t *testing.T) {
	forms := kinds()
	forms[100] = or(num(1), num(2))
	forms[101] = let("f", fn("f", num(1)), num(2))
	forms[102] = prim("not", num(1))
	forms[103] = prim("print", num(1))
	forms[104] = prim("quotient", num(1), num(2))
	forms[105] = prim("=", num(1), num(2))
	// put returns a tree with an expression in the place of one of its Args, and whether it has this place.
	put := func(form, i int, x api.Expr) (api.Expr, bool) {
		y := forms[form]
		switch {
		case form == 100 && i == 0:
			return or(x, y.Args[0]), true
		case form == 100 && i == 1:
			return or(y.Args[0], x), true
		case form == 101 && i == 0:
			return let("f", fn("f", x, "f"), num(2)), true
		case i >= len(y.Args) || form == 100:
			return api.Expr{}, false
		}
		y.Args = slices.Clone(y.Args)
		y.Args[i] = x
		return y, true
	}
	deepest := 0
	for f := range forms {
		for g := range forms {
			for i := range 3 {
				for j := range 3 {
					turns, places := []int{f, g}, []int{i, j}
					x := num(-1)
					for n := 0; ; n++ {
						y, is := put(turns[n%2], places[n%2], x)
						if !is || depth(y) > api.MaxDeep {
							break
						}
						x = y
					}
					if depth(x) < api.MaxDeep-1 {
						continue // one of them has no such place
					}
					deepest++
					back(t, fmt.Sprintf("%d/%d, %d/%d", f, i, g, j), x)
				}
			}
		}
	}
	if deepest < 800 {
		t.Errorf("there were only %d deep trees", deepest)
	}
}

// depth returns how many expressions are within each other.
func depth(e api.Expr) int {
	deepest := 0
	for _, a := range e.Args {
		deepest = max(deepest, depth(a))
	}
	return 1 + deepest
}

func TestP4_2PrintType(t *testing.T) {
	m := newMaker(20)
	l := []api.Type{unions(99, object()), unions(99, api.Type{Kind: api.TyUnion})}
	for range 3000 {
		l = append(l, m.typ(4))
	}
	for _, x := range l {
		text, e := syntax.PrintType(x)
		if y, at, f := syntax.ParseType(scan(t, text)); e != api.OK || at != 0 || f != api.OK || !exactly(x, y) || lex.Join(scan(t, text)) != text {
			t.Fatalf("PrintType of %s = %q, %v, which is parsed as %s, %v", showType(x), text, e, showType(y), f)
		}
	}
}

// measure is the measure of a source.
type measure int

func (m *measure) add(names ...string) {
	for _, s := range names {
		*m += measure(len(s))
	}
}

func (m *measure) typ(t api.Type) {
	*m += 64
	m.add(t.Name)
	for _, a := range t.Args {
		m.typ(a)
	}
}

func (m *measure) params(l []api.Param) {
	for _, p := range l {
		*m += 64
		m.add(p.Name)
		m.typ(p.Type)
	}
}

func (m *measure) expr(e api.Expr) {
	*m += 64
	m.add(e.Name)
	m.params(e.Params)
	if e.Type.Kind != 0 {
		m.typ(e.Type)
	}
	*m += measure(64 * len(e.Keys))
	m.add(e.Keys...)
	for _, a := range e.Args {
		m.expr(a)
	}
}

func (m *measure) class(c api.ClassDef) {
	m.add(c.Name)
	*m += measure(64 * len(c.Supers))
	m.add(c.Supers...)
	for _, s := range c.Slots {
		*m += 64
		m.add(s.Name, s.Key)
		m.typ(s.Type)
		for _, e := range s.Init {
			m.expr(e)
		}
	}
}

func (m *measure) def(d api.Def) {
	*m += 64
	switch d.Kind {
	case api.DfClass:
		m.class(d.Class)
	case api.DfGeneric:
		m.add(d.Generic.Name)
	case api.DfMethod:
		m.add(d.Method.Generic)
		m.params(d.Method.Params)
		m.typ(d.Method.Result)
		m.expr(d.Method.Body)
	case api.DfDomain:
		m.add(d.Domain.Generic)
		for _, x := range d.Domain.Types {
			m.typ(x)
		}
	case api.DfConst:
		m.add(d.Name)
		m.expr(d.Body)
	}
}

func (m *measure) source(s api.Source) {
	for _, u := range s.Uses {
		*m += 64
		m.add(u.Lib, u.Prefix)
		for _, r := range u.Names {
			*m += 64
			m.add(r.From, r.To)
		}
	}
	*m += measure(64 * len(s.Exports))
	m.add(s.Exports...)
	for _, d := range s.Defs {
		m.def(d)
	}
	for _, e := range s.Main {
		m.expr(e)
	}
}

// backSource prints a source, and fails unless it is parsed back, or its text is too long and its measure great.
func backSource(t *testing.T, what string, s api.Source) (long bool) {
	t.Helper()
	var m measure
	m.source(s)
	text, e := syntax.Print(s)
	if e == api.ErrLong && text == "" && m > api.MaxText {
		return true
	}
	if e != api.OK || len(text) > api.MaxText {
		t.Fatalf("%s: Print = %d bytes, %v; the measure is %d", what, len(text), e, m)
	}
	l, at, e := lex.Scan(text)
	if e != api.OK || lex.Join(l) != text || len(l) > api.MaxTokens {
		t.Fatalf("%s: Print = %.300q, whose %d tokens are %.300q, %d, %v", what, text, len(l), lex.Join(l), at, e)
	}
	if x, at, e := syntax.ParseTokens(l); at != 0 || e != api.OK || !exactly(x, s) {
		t.Fatalf("%s: Print of %.1000s = %.1000q, which is parsed as %.1000s, %d, %v", what, fmt.Sprintf("%+v", s), text, fmt.Sprintf("%+v", x), at, e)
	}
	return false
}

// TestP4_2Measure: sources that consist of as many parts of one sort as the measure allows can be printed, even if their names and numbers are long.
func TestP4_2Measure(t *testing.T) {
	least := api.Type{Kind: api.TyInt, Lo: math.MinInt, Hi: math.MinInt}
	var params []api.Param
	for i := range 6 {
		params = append(params, api.Param{Name: fmt.Sprintf("%s%d", long[:39], i), Type: least})
	}
	var slots []api.Slot
	for i := range 16 {
		slots = append(slots, api.Slot{Name: fmt.Sprintf("s%d", i), Type: least, Key: long[1:], Alloc: api.SlEach, Init: []api.Expr{num(math.MinInt)}})
	}
	exprs := kinds()
	exprs[100] = num(math.MinInt)
	exprs[101] = or(num(math.MinInt), num(math.MinInt))
	exprs[102] = let("f", fn("f", num(1)), num(1))
	exprs[103] = api.Expr{Kind: api.ExFn, Params: params, Args: []api.Expr{num(math.MinInt)}}
	exprs[104] = call(prim("class-of", num(1)))
	exprs[105] = call(prim("not", prim("not", prim("quotient", prim("==", num(math.MinInt), num(1)), num(1)))))
	exprs[106] = api.Expr{Kind: api.ExMake, Keys: keys(16), Args: times(17, num(math.MinInt))}
	exprs[107] = api.Expr{Kind: api.ExLoad, Num: math.MaxInt}
	exprs[108] = api.Expr{Kind: api.ExIs, Type: api.Type{Kind: api.TyUnion, Args: times(16, least)}, Args: []api.Expr{num(1)}}
	defs := []api.Def{
		{Kind: api.DfGeneric, Generic: api.GenericDef{Name: "f", Arity: 6, Sealed: true}},
		{Kind: api.DfGeneric, Generic: api.GenericDef{Name: "f"}},
		{Kind: api.DfClass, Class: api.ClassDef{Name: "c", Supers: times(8, "a"), Abstract: true, Sealed: true}},
		{Kind: api.DfClass, Class: api.ClassDef{Name: "c", Supers: []string{"a"}, Slots: slots}},
		{Kind: api.DfMethod, Method: api.MethodDef{Generic: "f", Result: least, Body: num(1)}},
		{Kind: api.DfMethod, Method: api.MethodDef{Generic: "f", Params: params, Result: least, Body: num(1)}},
		{Kind: api.DfDomain, Domain: api.DomainDef{Generic: "f"}},
		{Kind: api.DfDomain, Domain: api.DomainDef{Generic: "f", Types: times(6, least)}},
		{Kind: api.DfDomain, Domain: api.DomainDef{Generic: "f", Types: times(6, unions(3, api.Type{Kind: api.TyBool}))}},
		{Kind: api.DfConst, Name: "c", Body: num(1)},
	}
	for _, x := range exprs {
		defs = append(defs, api.Def{Kind: api.DfConst, Name: "c", Body: x})
	}
	var uses []api.Use
	for i := range 10 {
		uses = append(uses, api.Use{Lib: fmt.Sprintf("l%d", i), Names: times(16, api.Rename{From: "a", To: "b"})})
	}
	for i, d := range defs {
		for _, s := range []api.Source{{Name: long}, {Name: long, Uses: uses, Exports: keys(16), Main: []api.Expr{num(math.MinInt)}}} {
			for len(s.Defs) < api.MaxDefs {
				next := s
				next.Defs = append(next.Defs, d)
				var m measure
				m.source(next)
				if m > api.MaxText {
					break
				}
				s = next
			}
			if backSource(t, fmt.Sprint(i), s) {
				t.Errorf("%d: Print of %d definitions has ErrLong", i, len(s.Defs))
			}
		}
	}
}

func TestP4_2Long(t *testing.T) {
	row := func(n int, e api.Expr, more ...api.Expr) api.Expr { return seq(append(times(n, e), more...)...) }
	for _, x := range []struct {
		what          string
		e             api.Expr
		bytes, tokens int // 0: too many
	}{
		{"names", row(400, name(long)), 17207, 801},
		{"as many bytes as there may be", row(464, name(long), name(long[:38])), api.MaxText, 931},
		{"a byte too much", row(464, name(long), name(long[:39])), 0, 0},
		{"far too many bytes", row(2998, name(long)), 0, 0},
		{"calls", row(1499, call(name("f"))), 11999, 5997},
		{"as many tokens as there may be", row(1499, num(-1), prim("not", num(1))), 13504, api.MaxTokens},
		{"a token too much", row(1500, num(-1)), 0, 0},
		{"far too many tokens", row(1900, num(-1)), 0, 0},
	} {
		text, e := syntax.PrintExpr(x.e)
		if x.bytes == 0 {
			if text != "" || e != api.ErrLong {
				t.Errorf("%s: PrintExpr = %d bytes, %v; expected ErrLong", x.what, len(text), e)
			}
			continue
		}
		if len(text) != x.bytes || len(strings.Fields(text)) != x.tokens || e != api.OK {
			t.Errorf("%s: PrintExpr = %d bytes, %d tokens, %v; expected %d, %d", x.what, len(text), len(strings.Fields(text)), e, x.bytes, x.tokens)
			continue
		}
		back(t, x.what, x.e)
	}
}
