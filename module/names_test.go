package module_test

import (
	"fmt"
	"slices"
	"strings"
	"testing"

	"skerry/api"
	"skerry/module"
)

func TestP5_1Missing(t *testing.T) {
	for _, x := range []struct{ text, want string }{
		{"1", ""},
		{"x(area, <c>, <shape>, <object>)", ""},
		{"define method volume () 1 end", "volume"},
		{"define method volume (x :: <y>, z :: subclass(<x>)) => type-union(<a>, type-union(<w>), limited(1, 2)) f(x, z, g) end", "<a> <w> <x> <y> f g volume"},
		{"define sealed domain dom (<b>, <a>)", "<a> <b> dom"},
		{"define class <d> (<s2>, <s1>) slot a :: <t>, init-value: i; virtual slot v :: <u>; end", "<s1> <s2> <t> <u> i"},
		{"define generic g (nothing)", ""},
		{"define constant q = p", "p"},
		{"begin let a = a; let b = a; local method c (d) c(d, b, e) end; block (f) f(g) cleanup f() end end", "a e f g"},
		{"begin let handler <h> = hh; instance?(make(mm, k: kk), <i>) end", "<h> <i> hh kk mm"},
		{"z(z, z@0, y@0, b@0, b@1, b@lib, x@0)", "b b@1 b@lib y z"},
		{"begin let z = 1; z@0(z) end", "z"},
		{"begin let z@0 = 1; z@0(z) end", "z"},
		{"a.b := c", "a b-setter c"},
		{"a(<a>, %a, *a*, $a, _a)", "$a %a *a* <a> _a a"},
		// What is of another kind is there; and what follows it is looked at.
		{"define method x (a :: x) => area instance?(no, <e>) end; define class <d> (area) slot draw :: x; end", "<e> no"},
		{"define class <d> (<c>@0) slot a :: <e>@0; end", "<c>@0 <e>@0"},
		{"define method f@0 () 1 end", "f@0"},
		{"define sealed domain area@0 (<c>@b)", "<c>@b area@0"},
	} {
		s := source(t, "library b; use geo; use gui, import: { draw, depth }; export none; define constant x = 1; define class <c> (<object>) end; "+x.text+";")
		l, e := module.Missing(s, more())
		if e != api.OK || strings.Join(l, " ") != x.want {
			t.Errorf("Missing of %q = %q, %v; expected %q", x.text, l, e, x.want)
		}
	}
}

func TestP5_1Expr(t *testing.T) {
	table := entries("x=x@l! x=twice@l! <a>=<a>@l f=f/2 y@l=z@m! <b>=<b>@l! q= q@0=q0@l! <n>=<n>@l")
	table[8].Kind = 77
	for _, x := range []struct {
		text, want string
		e          api.Errno
	}{
		{"x", "x@l", api.OK},
		{"x(f, y@l, <b>, <a>, <n>)", "x@l(f, z@m, <b>@l, <a>@l, <n>@l)", api.OK},
		{"x@0", "x@l", api.OK},
		{"y@l(1)", "z@m(1)", api.OK},
		{"y", "", api.ErrUnbound},
		{"<object>", "", api.ErrUnbound},
		{"instance?(x, <a>)", "instance?(x@l, <a>@l)", api.OK},
		{"instance?(x, subclass(<a>))", "instance?(x@l, subclass(<a>@l))", api.OK},
		{"instance?(x, <b>)", "", api.ErrSort},
		{"instance?(x, f)", "", api.ErrSort},
		{"instance?(x, <n>)", "", api.ErrSort},
		{"instance?(x, <object>)", "", api.ErrUnbound},
		{"instance?(no, <b>)", "", api.ErrSort},
		{"instance?(no, <a>)", "", api.ErrUnbound},
		{"method (y :: <a>) y end", "method (y :: <a>@l) y end", api.OK},
		{"method (y) y end", "", api.ErrUnbound},
		{"begin let y = x; let x = y; x(y) end", "begin let y = x@l; let x = y; x(y) end", api.OK},
	} {
		y, e := module.Expr(table, expr(t, x.text))
		if e != x.e || e == api.OK && !exactly(y, expr(t, x.want)) || e != api.OK && !exactly(y, api.Expr{}) {
			t.Errorf("Expr of %q = %s, %v; expected %q, %v", x.text, showExpr(y), e, x.want, x.e)
		}
	}
	// The Full of an entry may be anything; a name of a variable with @0 denotes what the name without it does.
	q := api.Expr{Kind: api.ExVar, Name: "q@0"}
	if y, e := module.Expr(table, q); e != api.OK || !exactly(y, api.Expr{Kind: api.ExVar}) {
		t.Errorf("Expr of q@0 = %+v, %v", y, e)
	}
}

func TestP5_1Type(t *testing.T) {
	table := entries("<a>=<a>@l f=f@l/2 <a>=<b>@l c=c@l! <d>@0=x")
	for _, x := range []struct {
		text, want string
		e          api.Errno
	}{
		{"<a>", "<a>@l", api.OK},
		{"subclass(<a>)", "subclass(<a>@l)", api.OK},
		{"limited(-3, 4)", "limited(-3, 4)", api.OK},
		{"singleton(#t)", "singleton(#t)", api.OK},
		{"type-union()", "type-union()", api.OK},
		{"type-union(<a>, type-union(subclass(<a>), limited(0, 0)))", "type-union(<a>@l, type-union(subclass(<a>@l), limited(0, 0)))", api.OK},
		{"<d>@0", "x", api.OK},
		{"<a>@0", "", api.ErrUnbound},
		{"<object>", "", api.ErrUnbound},
		{"f", "", api.ErrSort},
		{"subclass(c)", "", api.ErrSort},
		{"type-union(<a>, f, no)", "", api.ErrSort},
		{"type-union(<a>, no, f)", "", api.ErrUnbound},
		{"type-union(type-union(f), no)", "", api.ErrSort},
	} {
		y, e := module.Type(table, typ(t, x.text))
		if e != x.e || e == api.OK && !exactly(y, typ(t, x.want)) || e != api.OK && !exactly(y, api.Type{}) {
			t.Errorf("Type of %q = %s, %v; expected %q, %v", x.text, showType(y), e, x.want, x.e)
		}
	}
}

// around returns an expression and a type that contain themselves.
func around() (api.Expr, api.Type) {
	x := api.Expr{Kind: api.ExSeq, Args: make([]api.Expr, 2)}
	x.Args[0], x.Args[1] = x, x
	y := api.Type{Kind: api.TyUnion, Args: make([]api.Type, 1)}
	y.Args[0] = y
	return x, y
}

func TestP5_1ExprForm(t *testing.T) {
	table := func(n int) []api.Export {
		l := entries("x=x@l! <a>=<a>@l")
		return append(l, make([]api.Export, n-2)...)
	}
	endless, endlessType := around()
	deep := api.Expr{Kind: api.ExNum}
	for range api.MaxDeep {
		deep = api.Expr{Kind: api.ExBlock, Args: []api.Expr{deep}}
	}
	for i, x := range []struct {
		expr  api.Expr
		table []api.Export
		want  api.Errno
	}{
		{expr(t, "x"), table(2000), api.OK},
		{expr(t, "x"), table(2001), api.ErrLong},
		{expr(t, "no"), table(2000), api.ErrUnbound},
		{expr(t, "no"), table(2001), api.ErrLong},
		{expr(t, "1"), nil, api.OK},
		{expr(t, "x"), nil, api.ErrUnbound},
		{api.Expr{}, table(2001), api.ErrForm},
		{api.Expr{Kind: api.ExSlot, Name: "x", Args: []api.Expr{expr(t, "x")}}, table(2), api.ErrForm},
		{api.Expr{Kind: api.ExDirect, Name: "x"}, table(2), api.ErrForm},
		{endless, table(2001), api.ErrLong},
		{deep, table(2001), api.ErrDeep},
	} {
		y, e := module.Expr(x.table, x.expr)
		if e != x.want || e != api.OK && !exactly(y, api.Expr{}) {
			t.Errorf("%d: Expr = %+v, %v; expected %v", i, y, e, x.want)
		}
	}
	for i, x := range []struct {
		typ   api.Type
		table []api.Export
		want  api.Errno
	}{
		{typ(t, "<a>"), table(2000), api.OK},
		{typ(t, "<a>"), table(2001), api.ErrLong},
		{typ(t, "<no>"), table(2001), api.ErrLong},
		{typ(t, "x"), table(2000), api.ErrSort},
		{typ(t, "limited(1, 2)"), nil, api.OK},
		{api.Type{}, table(2001), api.ErrForm},
		{api.Type{Kind: api.TyInt, Lo: 1}, table(2), api.ErrForm},
		{endlessType, table(2001), api.ErrLong},
	} {
		y, e := module.Type(x.table, x.typ)
		if e != x.want || e != api.OK && !exactly(y, api.Type{}) {
			t.Errorf("%d: Type = %+v, %v; expected %v", i, y, e, x.want)
		}
	}
}

// TestP5_1ExprTable: the table of a source resolves its expressions as Resolve does, and the face as a table likewise.
func TestP5_1ExprTable(t *testing.T) {
	x := expr(t, "area(make(<shape>, area: 1))")
	y, e := module.Expr(geo()[0].Names, x)
	if e != api.OK || !exactly(y, expr(t, "area@geo(make(<shape>@geo, area: 1))")) {
		t.Errorf("Expr over a face = %s, %v", showExpr(y), e)
	}
}

func TestP5_1Globals(t *testing.T) {
	endless, _ := around()
	for _, x := range []struct {
		expr api.Expr
		want string
	}{
		{expr(t, "1"), ""},
		{expr(t, "begin let x = y; f(x) end"), "y f"},
		{expr(t, "f(x, f, y, x)"), "f x y"},
		{expr(t, "f@0(x@0, f, y, x)"), "f x y"},
		{expr(t, "f(x, f@0, y@1, x@l, x@0, y@00)"), "f x y@1 x@l y@00"},
		{expr(t, "begin let x = x@0; x(x@0) end"), "x"},
		{expr(t, "begin let x@0 = x; x@0(y) end"), "x y"},
		{expr(t, "begin let x@0 = 1; x@0 end"), ""},
		{expr(t, "instance?(make(<c>, k: v), <d>)"), "<c> v"},
		{expr(t, "a | b & a"), "a b"},
		{api.Expr{}, ""},
		{api.Expr{Kind: api.ExSeq, Args: []api.Expr{expr(t, "x")}}, ""},
		{endless, ""},
	} {
		if l := module.Globals(x.expr); strings.Join(l, " ") != x.want {
			t.Errorf("Globals of %s = %q; expected %q", fmt.Sprintf("%.200s", showOrNot(x.expr)), l, x.want)
		}
	}
	x := expr(t, "f(x, y)")
	l := module.Globals(x)
	clear(l)
	if !slices.Equal(module.Globals(x), []string{"f", "x", "y"}) {
		t.Error("Globals shares memory with its argument")
	}
}

// showOrNot is showExpr for expressions that may contain themselves.
func showOrNot(x api.Expr) string {
	if module.Globals(x) == nil {
		return fmt.Sprint("an expression of the kind ", x.Kind)
	}
	return showExpr(x)
}
