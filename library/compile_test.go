package library_test

import (
	"fmt"
	"slices"
	"strings"
	"testing"

	"skerry/api"
	"skerry/library"
	"skerry/module"
)

// TestP6_1Examples: the examples of the chapter.
func TestP6_1Examples(t *testing.T) {
	a := built(t, textA)
	if len(a.Library.Defs) != 1 || a.Library.Defs[0].Generic != (api.GenericDef{Name: "size@a", Arity: 1}) || faceNames(a.Interface.Face) != "size=size@a" || macroNames(a.Interface.Macros) != "inc" {
		t.Errorf("Build of a = %+v", a)
	}
	b := built(t, textB, a)
	if len(b.Library.Defs) != 1 || b.Library.Defs[0].Method.Generic != "size@a" || printedExpr(b.Library.Defs[0].Method.Body) != "o + 1" || len(b.Main) != 1 || printedExpr(b.Main[0]) != "size@a ( 3 )" {
		t.Errorf("Build of b = %+v", b)
	}
	if u, trouble, e := library.Build(textB, nil); e != api.ErrUse || trouble != (api.Trouble{Layer: 5}) || !isZero(u) {
		t.Errorf("Build of b without interfaces = %+v, %v, %v", u, trouble, e)
	}
	if l, e := library.Order([]api.Unit{b, a}); e != api.OK || !slices.Equal(l, []int{1, 0}) {
		t.Errorf("Order = %v, %v", l, e)
	}
	p, e := library.Link([]api.Unit{b, a})
	if e != api.OK || !exactly(p, api.Program{Libs: []api.Library{a.Library, b.Library}, Main: b.Main[0]}) {
		t.Errorf("Link = %+v, %v", p, e)
	}
	without := built(t, "library a ; export size ; define generic size ( o ) ;")
	if l, e := library.Stale([]api.Unit{b, without}); e != api.OK || !slices.Equal(l, []int{0}) {
		t.Errorf("Stale = %v, %v", l, e)
	}
	if _, trouble, e := library.Build("library a ; define", nil); e != api.ErrParse || trouble != (api.Trouble{Layer: 4, At: 4}) {
		t.Errorf("Build = %v, %v", trouble, e)
	}
}

// TestP6_1DocumentExample: the libraries T and U of the document's own examples.
func TestP6_1DocumentExample(t *testing.T) {
	a := built(t, "library a; export <shape>, <leaf>, area; define class <shape> (<object>) end; define sealed class <leaf> (<shape>) slot size :: <integer>, init-keyword: size:; end; define generic area (s); define method area (s :: <shape>) 1 end; define sealed method area (s :: <leaf>) s.size + next-method() end;")
	if faceNames(a.Interface.Face) != "<shape>=<shape>@a <leaf>=<leaf>@a area=area@a" {
		t.Errorf("the face of a is %s", faceNames(a.Interface.Face))
	}
	b := built(t, "library b; use a; area(make(<leaf>, size: 4))", a)
	if printedExpr(b.Main[0]) != "area@a ( make ( <leaf>@a , size: 4 ) )" {
		t.Errorf("the main expression of b is %s", printedExpr(b.Main[0]))
	}
}

// TestP6_1Compile compares the units of sources with what package module makes of them.
func TestP6_1Compile(t *testing.T) {
	m := built(t, textM)
	a := built(t, textA)
	c := built(t, "library c; use a, prefix: a_; export a_size, z; define constant z = 26;", a)
	used := interfaces(c, m, a)
	for _, x := range []struct{ text, against string }{
		{"library x;", ""},
		{"library x; define constant k = 1; k", ""},
		{"library x; use a; size(1)", "a"},
		{"library x; use a; use m; export k, size; size(k)", "m a"},
		{"library x; use m, import: { k => one }; use c; export one; define method z2 (x) x end; define generic z2 (x); a_size(z)", "c m"},
		{"library x; use a; use c; use m, prefix: m_; define class <q> (m_<p>) slot s; slot size; end; m_f", "c m a"},
		{"library m; define constant k = 3;", ""},
		{"library m; use a;", "a"},
		{"patch a; define method size (x :: <integer>) 1 end;", "a"},
		{"patch c; define constant y = z; define constant x = a_size;", "c"},
		{"patch m; define constant other = hidden; define method s (x :: <p>) f(k, x.s) end;", "m"},
	} {
		s := parsed(t, x.text)
		own := valid(t).Macros
		faces := []api.Face{c.Interface.Face, m.Interface.Face, a.Interface.Face}
		if s.Patch {
			own = nil
			faces = []api.Face{map[string]api.Interface{"a": a.Interface, "c": c.Interface, "m": m.Interface}[s.Name].Whole}
		}
		var want api.Unit
		var e1, e2, e3 api.Errno
		want.Patch = s.Patch
		want.Library, want.Main, e1 = module.Resolve(s, faces)
		if !s.Patch {
			want.Interface.Face, e2 = module.Faced(s, faces)
			want.Interface.Whole, e3 = module.Whole(s, faces)
			want.Interface.Macros = own
		}
		for _, i := range used {
			if slices.Contains(strings.Fields(x.against), i.Face.Lib) {
				want.Against = append(want.Against, i)
			}
		}
		got, e := library.Compile(s, own, used)
		if e != api.OK || e1 != api.OK || e2 != api.OK || e3 != api.OK || !exactly(got, want) || libs(got.Against) != x.against {
			t.Errorf("Compile of %q = %+v, %v; expected %+v", x.text, got, e, want)
		}
		if e := library.CheckUnit(got); e != api.OK {
			t.Errorf("CheckUnit of %q = %v", x.text, e)
		}
		if s := shared(got, s, own, used); s != "" {
			t.Errorf("Compile of %q shares memory: %s", x.text, s)
		}
	}
}

// TestP6_1Patch: a patch knows all names of the library that it patches, and nothing else.
func TestP6_1Patch(t *testing.T) {
	a := built(t, "library a; export f; define generic f (x); define constant k = 1; define macro mac { mac() } => { 2 } end;")
	b := built(t, "library b; use a; export g; define generic g (x); define constant k2 = 1;", a)
	for _, x := range []struct {
		text string
		used []api.Unit
		want api.Errno
	}{
		{"patch a; define constant j = k;", []api.Unit{b, a}, api.OK},
		{"patch a; define method f (x) k end;", []api.Unit{a}, api.OK},
		{"patch b; define method f (x) g(k2) end;", []api.Unit{a, b}, api.OK},
		{"patch b; define method f (x) g(k2) end;", []api.Unit{b}, api.OK},
		{"patch b; define method f (x) k end;", []api.Unit{a, b}, api.ErrUnbound},
		{"patch a; define method f (x) g(x) end;", []api.Unit{a, b}, api.ErrUnbound},
		{"patch a; define constant k = 2;", []api.Unit{a}, api.OK},
		{"patch a; define constant f = 2;", []api.Unit{a}, api.ErrClash},
		{"patch a; define constant j = mac();", []api.Unit{a}, api.ErrUnbound}, // it has no macros, either
		{"patch c; define constant j = 1;", []api.Unit{a, b}, api.ErrUse},
		{"patch c; define constant j = 1;", nil, api.ErrUse},
	} {
		u, trouble, e := library.Build(x.text, interfaces(x.used...))
		if e != x.want || e == api.OK && trouble != (api.Trouble{}) || e != api.OK && (trouble != (api.Trouble{Layer: 5}) || !isZero(u)) {
			t.Errorf("Build of %q = %v, %v; expected %v", x.text, trouble, e, x.want)
		}
		if e == api.OK && (!u.Patch || libs(u.Against) != u.Library.Name || !isZero(u.Interface) || len(u.Main) > 0) {
			t.Errorf("Build of %q = %+v", x.text, u)
		}
	}
}

func TestP6_1CompileErrors(t *testing.T) {
	a := built(t, textA)
	wide := func(lib string, n int) api.Interface {
		i := with(lib, "")
		for j := range n {
			x := api.Export{Name: fmt.Sprint(lib, j), Full: fmt.Sprintf("%s%d@%s", lib, j, lib), Kind: api.DfConst}
			i.Face.Names, i.Whole.Names = append(i.Face.Names, x), append(i.Whole.Names, x)
		}
		return i
	}
	used := []api.Interface{a.Interface, wide("v", 200), wide("w", 100), wide("p", api.MaxDefs)}
	for _, x := range []struct {
		what, text string
		own        []api.Macro
		want       api.Errno
	}{
		{"no macros", "library x;", nil, api.OK},
		{"as many macros as may be", "library x;", macros(api.MaxMacros), api.OK},
		{"too many macros", "library x;", macros(api.MaxMacros + 1), api.ErrInterface},
		{"a macro that is not right", "library x;", []api.Macro{{Name: "m"}}, api.ErrInterface},
		{"a macro twice", "library x;", append(macros(2), macros(1)...), api.ErrInterface},
		{"a patch with a macro", "patch a;", macros(1), api.ErrInterface},
		{"a patch with a macro that is not right", "patch a;", []api.Macro{{}}, api.ErrInterface},
		{"a patch with no macros", "patch a;", []api.Macro{}, api.OK},
		{"a patch without a library, with a macro", "patch z;", macros(1), api.ErrInterface},
		{"a library without a face", "library x; use z;", macros(1), api.ErrUse},
		{"a library that uses itself", "library a; use a;", nil, api.ErrUse},
		{"an import that is not there", "library x; use a, import: { length };", nil, api.ErrExport},
		{"an export that is not there", "library x; export f;", nil, api.ErrExport},
		{"an export of a predefined name", "library x; export <object>;", nil, api.ErrExport},
		{"a name that is too long", "library x; define constant " + strings.Repeat("k", 39) + " = 1;", nil, api.ErrQual},
		{"a name of two things", "library x; use a; define constant size = 1;", nil, api.ErrClash},
		{"a name of nothing", "library x; f(1)", nil, api.ErrUnbound},
		{"a class that is none", "library x; use a; instance?(1, size)", nil, api.ErrSort},
		{"a name of nothing, and an export that is not there", "library x; export f; f(1)", nil, api.ErrUnbound},
		{"as many names as may be", "library x; use v; use w;", nil, api.OK},
		{"a name more", "library x; use v; use w; define constant k = 1;", nil, api.ErrLong},
		{"a name more, and one of nothing", "library x; use v; use w; define constant k = j;", nil, api.ErrUnbound},
		{"a name more, and an export that is not there", "library x; use v; use w; export j; define constant k = 1;", nil, api.ErrExport},
		{"a name more of a patch, which has no interface", "patch p; define constant k = 1;", nil, api.OK},
	} {
		s := parsed(t, x.text)
		u, e := library.Compile(s, x.own, used)
		if e != x.want || e != api.OK && !isZero(u) {
			t.Errorf("%s: Compile = %v; expected %v", x.what, e, x.want)
		}
		if len(x.own) > 0 {
			continue
		}
		u, trouble, e := library.Build(x.text, used)
		if e != x.want || e != api.OK && (trouble != (api.Trouble{Layer: 5}) || !isZero(u)) || e == api.OK && trouble != (api.Trouble{}) {
			t.Errorf("%s: Build = %v, %v; expected %v", x.what, trouble, e, x.want)
		}
	}
	for _, x := range []struct {
		what string
		s    api.Source
		own  []api.Macro
		want api.Errno
	}{
		{"a zero source", api.Source{}, nil, api.ErrForm},
		{"a zero source, and a macro that is not right", api.Source{}, []api.Macro{{}}, api.ErrInterface},
		{"a zero patch, and a macro", api.Source{Patch: true}, macros(1), api.ErrInterface},
		{"a patch with a main expression", api.Source{Name: "a", Patch: true, Main: []api.Expr{{Kind: api.ExNum}}}, nil, api.ErrForm},
		{"a patch with a use", api.Source{Name: "a", Patch: true, Uses: []api.Use{{Lib: "v", All: true}}}, nil, api.ErrForm},
		{"two main expressions", api.Source{Name: "x", Main: []api.Expr{{Kind: api.ExNum}, {Kind: api.ExNum}}}, nil, api.ErrForm},
		{"many definitions", api.Source{Name: "x", Defs: make([]api.Def, api.MaxDefs+1)}, nil, api.ErrForm},
		{"many expressions", api.Source{Name: "x", Main: make([]api.Expr, api.MaxNodes+1)}, nil, api.ErrLong},
		{"an expression that contains itself", api.Source{Name: "x", Main: endless()}, nil, api.ErrLong},
	} {
		if u, e := library.Compile(x.s, x.own, used); e != x.want || !isZero(u) {
			t.Errorf("%s: Compile = %v; expected %v", x.what, e, x.want)
		}
	}
	// The macros of a patch are an error of Compile, not one of the interfaces.
	text := "patch a; define macro m { m() } => { 1 } end;"
	if u, trouble, e := library.Build(text, used); e != api.ErrInterface || trouble != (api.Trouble{Layer: 5}) || !isZero(u) {
		t.Errorf("Build of a patch with a macro = %v, %v", trouble, e)
	}
	if s, own, trouble, e := library.Front(text, used); e != api.OK || len(own) != 1 || !s.Patch || trouble != (api.Trouble{}) {
		t.Errorf("Front of a patch with a macro = %v, %v", trouble, e)
	}
}

// endless returns a list of an expression that contains itself.
func endless() []api.Expr {
	l := []api.Expr{{Kind: api.ExNext}}
	l[0].Args = l
	return l
}

// TestP6_1Memory: results share memory neither with arguments nor among themselves, and arguments are not changed.
func TestP6_1Memory(t *testing.T) {
	m, a := built(t, textM), built(t, textA)
	used := interfaces(m, a)
	before := fmt.Sprintf("%+v", used)
	text := `library x; use m; use a; export <q>, size, k;
define class <q> (<p>, <condition>) slot r :: type-union(<p>, singleton(#t)), init-value: unless (f) method (x :: <p>) x end end, init-keyword: r:; slot s; end;
define macro two { two(?e:expression) } => { begin ?e; inc(?e) end }; { two() } => { 2 } end;
define macro three { three end } => { two(two()) } end;
define sealed method f (x :: limited(1, 2), y :: type-union(<q>, <p>)) => type-union(<q>) make(<q>, r: x, s: two(y)) end;
define sealed domain size (type-union(<q>));
define constant l = method (x :: type-union(<q>)) instance?(three end, type-union(<p>, <q>)) end;
begin let x = two(); f(x, x) end`
	l, e := library.Uses(text, used)
	if s := shared(l, used); e != api.OK || len(l) != 2 || s != "" {
		t.Errorf("Uses = %v, %v shares memory: %s", l, e, s)
	}
	s, own, trouble, e := library.Front(text, used)
	if e != api.OK {
		t.Fatalf("Front = %v, %v", trouble, e)
	}
	type front struct {
		s   api.Source
		own []api.Macro
	}
	if s := shared(front{s, own}, used); s != "" {
		t.Errorf("Front shares memory: %s", s)
	}
	u, trouble, e := library.Build(text, used)
	if e != api.OK {
		t.Fatalf("Build = %v, %v", trouble, e)
	}
	if s := shared(u, used); s != "" {
		t.Errorf("Build shares memory: %s", s)
	}
	again, e := library.Compile(s, own, used)
	if s := shared(again, s, own, used, u); e != api.OK || s != "" || !exactly(again, u) {
		t.Errorf("Compile shares memory: %s", s)
	}
	if fmt.Sprintf("%+v", used) != before {
		t.Error("the interfaces were changed")
	}
	units := []api.Unit{u, m, built(t, "patch m; define method s (x :: type-union(<p>)) x.s end;", m), a}
	before = fmt.Sprintf("%+v", units)
	p, e := library.Link(units)
	if s := shared(p, units); e != api.OK || s != "" {
		t.Errorf("Link has the error %v, and shares memory: %s", e, s)
	}
	if want := (api.Program{Libs: []api.Library{m.Library, a.Library, u.Library}, Patches: []api.Library{units[2].Library}, Main: u.Main[0]}); !exactly(p, want) {
		t.Errorf("Link = %+v; expected %+v", p, want)
	}
	if fmt.Sprintf("%+v", units) != before {
		t.Error("the units were changed")
	}
	// Lists that are empty, but have room, are not shared either.
	roomy := unit("x")
	roomy.Library.Uses = make([]string, 0, 4)
	roomy.Library.Defs = make([]api.Def, 0, 4)
	roomy.Main = []api.Expr{{Kind: api.ExNum, Keys: make([]string, 0, 4), Args: make([]api.Expr, 0, 4), Params: make([]api.Param, 0, 4)}}
	if p, e := library.Link([]api.Unit{roomy}); e != api.OK || shared(p, roomy) != "" {
		t.Errorf("Link of empty lists has the error %v, and shares memory: %s", e, shared(p, roomy))
	}
}
