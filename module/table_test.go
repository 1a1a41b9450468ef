package module_test

import (
	"fmt"
	"slices"
	"strings"
	"testing"

	"skerry/api"
	"skerry/lex"
	"skerry/module"
)

// The predefined names, as show writes their entries.
const predefined = "<object>=<object> <integer>=<integer> <boolean>=<boolean> <class>=<class> <function>=<function> " +
	"<condition>=<condition> <serious-condition>=<serious-condition> <warning>=<warning> <restart>=<restart> <error>=<error> <fault>=<fault>"

func TestP5_1Full(t *testing.T) {
	n38 := strings.Repeat("n", 38)
	for _, x := range []struct {
		name, lib, want string
	}{
		{"area", "geo", "area@geo"},
		{"area", "0 0", ""},
		{"<a>", "l-1", "<a>@l-1"},
		{"x", "3", "x@3"},
		{"x", "0-", "x@0-"},
		{"x", "-0", ""},
		{"x", "", ""},
		{"", "l", ""},
		{"", "", ""},
		{"x", "L", ""},
		{"x", "l!", ""},
		{"x", "l ", ""},
		{"x", " l", ""},
		{"x ", "l", ""},
		{" x", "l", ""},
		{"x", "a@b", ""},
		{"x@a", "b", ""},
		{"x@a", "", ""},
		{"x/", "l", ""},
		{"1", "l", ""},
		{"x", "l:", ""},
		{"let", "l", "let@l"},
		{n38, "l", n38 + "@l"},
		{n38, "ll", ""},
		{"l", n38, "l@" + n38},
		{"l", n38 + "l", ""},
	} {
		if s, is := module.Full(x.name, x.lib); s != x.want || is != (x.want != "") {
			t.Errorf("Full of %q, %q = %q, %v; expected %q", x.name, x.lib, s, is, x.want)
		}
	}
}

// TestP5_1FullSplit compares Full with what lex says of the full name.
func TestP5_1FullSplit(t *testing.T) {
	l := []string{"", "a", "a-", "-a", "0", "0-", "a@b", "@", "<a>", "a+", "a/b", " ", "a b", "a:", "?a", "#t", "//", strings.Repeat("a", 37), strings.Repeat("a", 38), strings.Repeat("a", 100)}
	for _, x := range l {
		for _, lib := range l {
			text := x + "@" + lib
			y, m := lex.Split(text)
			want := lex.IsName(text) && y == x && m == lib
			if s, is := module.Full(x, lib); is != want || is && s != text || !is && s != "" {
				t.Errorf("Full of %q, %q = %q, %v; expected %v", x, lib, s, is, want)
			}
		}
	}
}

// numbered returns a face of n names, the classes <p0>, <p1> and so on of a library.
func numbered(lib, p string, n int) api.Face {
	f := api.Face{Lib: lib}
	for i := range n {
		name := fmt.Sprintf("<%s%d>", p, i)
		f.Names = append(f.Names, api.Export{Name: name, Full: name + "@" + lib, Kind: api.DfClass})
	}
	return f
}

func TestP5_1CheckFaces(t *testing.T) {
	one := func(x api.Export) []api.Face { return []api.Face{{Lib: "l", Names: []api.Export{x}}} }
	var many []api.Face
	for i := range 11 {
		many = append(many, api.Face{Lib: fmt.Sprint("l", i)})
	}
	class := api.Export{Name: "x", Full: "x@l", Kind: api.DfClass}
	with := func(change func(*api.Export)) []api.Face {
		x := class
		change(&x)
		return one(x)
	}
	for i, x := range []struct {
		faces []api.Face
		want  api.Errno
	}{
		{nil, api.OK},
		{[]api.Face{}, api.OK},
		{geo(), api.OK},
		{many[:10], api.OK},
		{many, api.ErrFace},
		{[]api.Face{{}}, api.ErrFace},
		{[]api.Face{{Lib: "l@k"}}, api.ErrFace},
		{[]api.Face{{Lib: "1"}}, api.ErrFace},
		{[]api.Face{{Lib: "<L"}}, api.ErrFace},
		{[]api.Face{{Lib: "<a>!"}, {Lib: "let"}}, api.OK},
		{[]api.Face{{Lib: "l"}, {Lib: "m"}, {Lib: "l"}}, api.ErrFace},
		{[]api.Face{numbered("l", "x", 300)}, api.OK},
		{[]api.Face{numbered("l", "x", 301)}, api.ErrFace},
		{one(class), api.OK},
		{append(geo(), one(api.Export{})...), api.ErrFace},
		{[]api.Face{{Lib: "l", Names: []api.Export{class, class}}}, api.ErrFace},
		{[]api.Face{{Lib: "l", Names: entries("x=x@l y=x@l")}}, api.OK},
		{[]api.Face{{Lib: "l", Names: entries("x=x@l y=y@l/1 x=x@l/1")}}, api.ErrFace},
		{[]api.Face{{Lib: "l", Names: entries("x=x@l")}, {Lib: "m", Names: entries("x=x@l!")}}, api.OK},
		{with(func(x *api.Export) { x.Name = "" }), api.ErrFace},
		{with(func(x *api.Export) { x.Name = "x@l" }), api.ErrFace},
		{with(func(x *api.Export) { x.Name = "x:" }), api.ErrFace},
		{with(func(x *api.Export) { x.Name = "end" }), api.OK},
		{with(func(x *api.Export) { x.Full = "" }), api.ErrFace},
		{with(func(x *api.Export) { x.Full = "x" }), api.ErrFace},
		{with(func(x *api.Export) { x.Full = "x@" }), api.ErrFace},
		{with(func(x *api.Export) { x.Full = "<object>" }), api.ErrFace},
		{with(func(x *api.Export) { x.Full = "y@0" }), api.OK},
		{with(func(x *api.Export) { x.Kind = 0 }), api.ErrFace},
		{with(func(x *api.Export) { x.Kind = -1 }), api.ErrFace},
		{with(func(x *api.Export) { x.Kind = api.DfGeneric }), api.OK},
		{with(func(x *api.Export) { x.Kind = api.DfMethod }), api.ErrFace},
		{with(func(x *api.Export) { x.Kind = api.DfDomain }), api.ErrFace},
		{with(func(x *api.Export) { x.Kind = api.DfConst }), api.OK},
		{with(func(x *api.Export) { x.Kind = 6 }), api.ErrFace},
		{with(func(x *api.Export) { x.Arity = 1 }), api.ErrFace},
		{with(func(x *api.Export) { x.Arity = -1 }), api.ErrFace},
		{with(func(x *api.Export) { x.Kind, x.Arity = api.DfConst, 1 }), api.ErrFace},
		{with(func(x *api.Export) { x.Kind, x.Arity = api.DfGeneric, 6 }), api.OK},
		{with(func(x *api.Export) { x.Kind, x.Arity = api.DfGeneric, 7 }), api.ErrFace},
		{with(func(x *api.Export) { x.Kind, x.Arity = api.DfGeneric, -1 }), api.ErrFace},
	} {
		if e := module.CheckFaces(x.faces); e != x.want {
			t.Errorf("%d: CheckFaces of %+v = %v; expected %v", i, x.faces, e, x.want)
		}
		if _, e := module.Table(api.Source{Name: "a"}, x.faces); e != x.want {
			t.Errorf("%d: Table with the faces %+v has the error %v; expected %v", i, x.faces, e, x.want)
		}
	}
}

// more has the faces of geo, of a library that shows some names of it and others, and of a.
func more() []api.Face {
	return append(geo(),
		api.Face{Lib: "gui", Names: entries("area=area@geo/1 <view>=<view>@gui draw=draw@gui/3 depth=depth@gui!")},
		api.Face{Lib: "a", Names: entries("<old>=<old>@a r=r@a/1 r-setter=r-setter@a/2 <shape>=<shape>@geo size=area@geo/1 k=k@a! other=gone@a/1")})
}

func TestP5_1Table(t *testing.T) {
	for _, x := range []struct {
		text, want string
	}{
		{"library b;", ""},
		{"library b; use geo;", "<shape>=<shape>@geo area=area@geo/1"},
		{"library b; use geo, prefix: g_;", "g_<shape>=<shape>@geo g_area=area@geo/1"},
		{"library b; use geo, import: { area => size };", "size=area@geo/1"},
		{"library b; use geo, import: { area => size, <shape>, area };", "size=area@geo/1 <shape>=<shape>@geo area=area@geo/1"},
		{"library b; use geo, import: { area => size, area => size };", "size=area@geo/1"},
		{"library b; use geo; use gui;", "<shape>=<shape>@geo area=area@geo/1 <view>=<view>@gui draw=draw@gui/3 depth=depth@gui!"},
		{"library b; use gui; use geo;", "area=area@geo/1 <view>=<view>@gui draw=draw@gui/3 depth=depth@gui! <shape>=<shape>@geo"},
		{"library b; use gui, prefix: x; use geo, import: { area => xarea };", "xarea=area@geo/1 x<view>=<view>@gui xdraw=draw@gui/3 xdepth=depth@gui!"},
		{"library b; define constant c = 1; define class <c> (<object>) end; define generic g (x, y); define sealed generic h ();",
			"c=c@b! <c>=<c>@b g=g@b/2 h=h@b/0"},
		{"library b; use geo; define method area (x) 1 end; define sealed domain area (<shape>); define sealed method area (x :: <shape>) 1 end; area(1)",
			"<shape>=<shape>@geo area=area@geo/1"},
		{"library b; define class <c> (<object>) slot y; virtual slot x; end; define constant z = 1;",
			"<c>=<c>@b y=y@b/1 y-setter=y-setter@b/2 x=x@b/1 x-setter=x-setter@b/2 z=z@b!"},
		{"library b; define class <c> (<object>) slot x; end; define class <d> (<c>) class slot x; each-subclass slot y; end;",
			"<c>=<c>@b x=x@b/1 x-setter=x-setter@b/2 <d>=<d>@b y=y@b/1 y-setter=y-setter@b/2"},
		{"library b; define class <c> (<object>) slot x; end; define generic x (o);",
			"<c>=<c>@b x-setter=x-setter@b/2 x=x@b/1"},
		{"library b; define class <c> (<object>) slot x; end; define generic x-setter (v, o); define generic x (a, b, c);",
			"<c>=<c>@b x-setter=x-setter@b/2 x=x@b/3"},
		{"library b; define generic x (o); define generic x-setter (v, o); define class <c> (<object>) slot x; end;",
			"x=x@b/1 x-setter=x-setter@b/2 <c>=<c>@b"},
		{"library b; use geo, import: { area => x }; define class <c> (<object>) slot x; end;",
			"x=area@geo/1 <c>=<c>@b x-setter=x-setter@b/2"},
		{"library b; use geo, import: { area => x-setter, <shape> => x }; define class <c> (<object>) slot x; end;",
			"x-setter=area@geo/1 x=<shape>@geo <c>=<c>@b"},
		{"library b; define constant c = 1; define constant c = 2; define class <c> (<object>) end; define class <c> (<integer>) end; define generic g (x); define sealed generic g (y);",
			"c=c@b! <c>=<c>@b g=g@b/1"},
		{"patch geo;", "<shape>=<shape>@geo area=area@geo/1"},
		{"patch a; define class <old> (<object>) slot r; slot s; slot size; end;",
			"<old>=<old>@a r=r@a/1 r-setter=r-setter@a/2 <shape>=<shape>@geo size=area@geo/1 k=k@a! other=gone@a/1 s=s@a/1 s-setter=s-setter@a/2 size-setter=size-setter@a/2"},
		{"patch a; define class <new> (<object>) slot gone; end; define generic s (x);",
			"<old>=<old>@a r=r@a/1 r-setter=r-setter@a/2 <shape>=<shape>@geo size=area@geo/1 k=k@a! other=gone@a/1 <new>=<new>@a gone=gone@a/1 gone-setter=gone-setter@a/2 s=s@a/1"},
	} {
		l, e := module.Table(source(t, x.text), more())
		want := strings.TrimSpace(predefined + " " + x.want)
		if e != api.OK || show(l) != want {
			t.Errorf("Table of %q = %s, %v; expected %s", x.text, show(l), e, want)
		}
	}
}

// TestP5_1TableErrors has the errors of Table, which all functions of a source have.
func TestP5_1TableErrors(t *testing.T) {
	most, long := strings.Repeat("x", 38), strings.Repeat("x", 39) // with @b behind it
	for _, x := range []struct {
		text string
		want api.Errno
	}{
		{"library b; use other;", api.ErrUse},
		{"library b; use geo; use other;", api.ErrUse},
		{"library a; use a;", api.ErrUse},
		{"library a; use geo; use a, import: { <old> };", api.ErrUse},
		{"library a; use geo;", api.OK},
		{"patch a; define constant c = 1;", api.OK},
		{"patch b; define constant c = 1;", api.ErrUse},
		{"patch b;", api.ErrUse},
		{"library b; use geo, import: { volume }; use other;", api.ErrUse},
		{"library b; use geo, import: { volume };", api.ErrExport},
		{"library b; use geo, import: { area => volume };", api.OK},
		{"library b; use geo, import: { volume => area };", api.ErrExport},
		{"library b; use geo, import: { area, <shape>, depth };", api.ErrExport},
		{"library b; use geo; use gui, import: { <shape> };", api.ErrExport},
		{"library b; use gui, import: { volume }; define constant " + most + " = 1;", api.ErrExport},
		{"library b; use geo, import: { volume }; use gui, prefix: " + most + ";", api.ErrExport},
		{"library b; use geo, prefix: " + most[5:] + ";", api.OK},
		{"library b; use geo, prefix: " + most[4:] + ";", api.ErrQual},
		{"library b; use gui; use geo, prefix: " + most[4:] + ";", api.ErrQual},
		{"library b; define constant " + most + " = 1;", api.OK},
		{"library b; define constant " + long + " = 1;", api.ErrQual},
		{"library bb; define constant " + most + " = 1;", api.ErrQual},
		{"library b; define generic " + most + "();", api.OK},
		{"library b; define generic " + long + "();", api.ErrQual},
		{"library b; define class " + most + "(<object>) end;", api.OK},
		{"library b; define class " + long + "(<object>) end;", api.ErrQual},
		{"library b; define class <c> (<object>) slot " + most[7:] + "; end;", api.OK},
		{"library b; define class <c> (<object>) slot " + most[6:] + "; end;", api.ErrQual},
		{"library b; define class <c> (<object>) slot x; virtual slot " + most[6:] + "; end;", api.ErrQual},
		{"library b; define class <c> (<object>) slot " + most + "; end;", api.ErrQual},
		{"library b; define class <c> (<object>) slot " + long + "; end;", api.ErrQual},
		{"library b; use geo, import: { area => " + most[6:] + "-setter, area => " + most[6:] + " }; define class <c> (<object>) slot " + most[6:] + "; end;", api.ErrQual},
		{"library b; use geo; define constant area = 1; define constant " + long + " = 1;", api.ErrQual},
		{"library b; define method " + long + " () 1 end;", api.OK},
		{"library b; use geo; define constant area = 1;", api.ErrClash},
		{"library b; use geo; define generic area (x);", api.ErrClash},
		{"library b; use geo; define class area (<object>) end;", api.ErrClash},
		{"library b; define constant <object> = 1;", api.ErrClash},
		{"library b; define class <fault> (<object>) end;", api.ErrClash},
		{"library b; define class <c> (<object>) slot <object>; end;", api.ErrClash},
		{"library b; use geo, import: { <shape> => <integer> };", api.ErrClash},
		{"library b; use geo, import: { <shape> => x, area => x };", api.ErrClash},
		{"library b; use geo; use gui, import: { depth => area };", api.ErrClash},
		{"library b; use geo; use gui;", api.OK},
		{"library b; define constant c = 1; define generic c ();", api.ErrClash},
		{"library b; define generic c (x); define generic c ();", api.ErrClash},
		{"library b; define constant c = 1; define class c (<object>) end;", api.ErrClash},
		{"library b; define class <c> (<object>) slot c; end; define constant c = 1;", api.ErrClash},
		{"library b; define class <c> (<object>) slot c; end; define constant c-setter = 1;", api.ErrClash},
		{"library b; define class <c> (<object>) slot <c>; end;", api.ErrClash},
		{"library b; define class <c> (<object>) slot c; slot c-setter; end;", api.ErrClash},
		{"library b; define class <c> (<object>) slot c; slot c-setter; end; define generic c-setter (x, y);", api.OK},
		{"patch a; define class <shape> (<object>) end;", api.ErrClash},
		{"patch a; define class <old> (<object>) end;", api.OK},
		{"patch a; define constant r = 1;", api.ErrClash},
		{"patch a; define generic r (o);", api.OK},
		{"patch a; define generic r ();", api.ErrClash},
		{"patch a; define constant k = 1;", api.OK},
		{"patch a; define constant <error> = 1;", api.ErrClash},
	} {
		s := source(t, x.text)
		l, e := module.Table(s, more())
		if e != x.want || e != api.OK && l != nil {
			t.Errorf("Table of %q = %s, %v; expected %v", x.text, show(l), e, x.want)
		}
		names, e := module.Missing(s, more())
		if e != x.want || e != api.OK && names != nil {
			t.Errorf("Missing of %q = %q, %v; expected %v", x.text, names, e, x.want)
		}
		if x.want == api.OK {
			continue
		}
		if lib, main, e := module.Resolve(s, more()); e != x.want || main != nil || !exactly(lib, api.Library{}) {
			t.Errorf("Resolve of %q = %+v, %+v, %v; expected %v", x.text, lib, main, e, x.want)
		}
		if f, e := module.Faced(s, more()); e != x.want || !exactly(f, api.Face{}) {
			t.Errorf("Faced of %q = %+v, %v; expected %v", x.text, f, e, x.want)
		}
		if f, e := module.Whole(s, more()); e != x.want || !exactly(f, api.Face{}) {
			t.Errorf("Whole of %q = %+v, %v; expected %v", x.text, f, e, x.want)
		}
	}
}

// TestP5_1TableClash has clashes with names of faces that are predefined ones.
func TestP5_1TableClash(t *testing.T) {
	faces := []api.Face{{Lib: "p", Names: entries("c=c@p! <object>=<object>@p")}, {Lib: "q", Names: entries("<integer>=<integer>@q <object>=<object>@p")}}
	for _, x := range []struct {
		text string
		want api.Errno
	}{
		{"patch p;", api.ErrClash},
		{"library a; use p;", api.ErrClash},
		{"library a; use p, import: { c };", api.OK},
		{"library a; use p, import: { <object> };", api.ErrClash},
		{"library a; use p, import: { <object> => <o> };", api.OK},
		{"library a; use p, prefix: p_; use q, prefix: p_;", api.OK},
		{"library a; use p, prefix: p_; use q, import: { <integer> => p_c };", api.ErrClash},
	} {
		if l, e := module.Table(source(t, x.text), faces); e != x.want || e != api.OK && l != nil {
			t.Errorf("Table of %q = %s, %v; expected %v", x.text, show(l), e, x.want)
		}
	}
}

// TestP5_1TableForm has the errors of sources that syntax does not parse.
func TestP5_1TableForm(t *testing.T) {
	around := []api.Expr{{Kind: api.ExSeq}}
	around[0].Args = around
	bad := []api.Face{{Lib: "@"}}
	for i, x := range []struct {
		source api.Source
		want   api.Errno
	}{
		{api.Source{}, api.ErrForm},
		{api.Source{Name: "<a>"}, api.ErrForm},
		{api.Source{Name: "a", Main: around}, api.ErrLong},
		{api.Source{Name: "a", Defs: []api.Def{{}}}, api.ErrForm},
		{api.Source{Name: "a", Uses: []api.Use{{Lib: "other"}}}, api.ErrForm},
		{api.Source{Name: "a", Uses: []api.Use{{Lib: "other", All: true}}}, api.ErrFace},
		{api.Source{Name: "a", Main: []api.Expr{{Kind: api.ExVar, Name: "x"}}}, api.ErrFace},
		{api.Source{Name: "a"}, api.ErrFace},
	} {
		if l, e := module.Table(x.source, bad); e != x.want || l != nil {
			t.Errorf("%d: Table = %v, %v; expected %v", i, l, e, x.want)
		}
		if _, _, e := module.Resolve(x.source, bad); e != x.want {
			t.Errorf("%d: Resolve = %v; expected %v", i, e, x.want)
		}
		if _, e := module.Faced(x.source, bad); e != x.want {
			t.Errorf("%d: Faced = %v; expected %v", i, e, x.want)
		}
		if _, e := module.Whole(x.source, bad); e != x.want {
			t.Errorf("%d: Whole = %v; expected %v", i, e, x.want)
		}
		if _, e := module.Missing(x.source, bad); e != x.want {
			t.Errorf("%d: Missing = %v; expected %v", i, e, x.want)
		}
	}
}

// wide returns a source that uses faces of n names in all, and these.
func wide(n int) (api.Source, []api.Face) {
	s := api.Source{Name: "a"}
	var faces []api.Face
	for i := 0; n > 0; i++ {
		f := numbered(fmt.Sprint("l", i), fmt.Sprintf("x%d-", i), min(n, api.MaxDefs))
		faces = append(faces, f)
		s.Uses = append(s.Uses, api.Use{Lib: f.Lib, All: true})
		n -= len(f.Names)
	}
	return s, faces
}

func TestP5_1TableLong(t *testing.T) {
	s, faces := wide(1989)
	if l, e := module.Table(s, faces); e != api.OK || len(l) != 2000 {
		t.Errorf("Table of 2000 entries = %d entries, %v", len(l), e)
	}
	s.Uses[0], s.Uses[1] = s.Uses[1], s.Uses[0]
	faces[2].Names[7] = faces[2].Names[6]
	faces[2].Names[7].Name = "<again>"
	if l, e := module.Table(s, faces); e != api.OK || len(l) != 2000 {
		t.Errorf("Table of 2000 entries with one full name twice = %d entries, %v", len(l), e)
	}
	// An entry that is there twice counts once.
	faces[2].Names[7] = api.Export{Name: "<x1-5>", Full: "<x1-5>@l1", Kind: api.DfClass}
	if l, e := module.Table(s, faces); e != api.OK || len(l) != 1999 {
		t.Errorf("Table of 2000 entries with one twice = %d entries, %v", len(l), e)
	}
	s, faces = wide(1990)
	s.Main = []api.Expr{{Kind: api.ExVar, Name: "unbound"}}
	s.Exports = []string{"unbound"}
	if l, e := module.Table(s, faces); e != api.ErrLong || l != nil {
		t.Errorf("Table of 2001 entries = %d entries, %v", len(l), e)
	}
	if _, _, e := module.Resolve(s, faces); e != api.ErrLong {
		t.Errorf("Resolve with a table of 2001 entries = %v", e)
	}
	if l, e := module.Missing(s, faces); e != api.ErrLong || l != nil {
		t.Errorf("Missing with a table of 2001 entries = %v", e)
	}
	s.Defs = source(t, "library a; define constant <object> = 1;").Defs
	if _, e := module.Table(s, faces); e != api.ErrClash {
		t.Errorf("Table of 2001 entries with a clash = %v", e)
	}
}

// TestP5_1TableMemory changes what Table was given, and what it returned.
func TestP5_1TableMemory(t *testing.T) {
	s, faces := source(t, "library b; use geo; define constant c = 1;"), geo()
	before := fmt.Sprintf("%+v %+v", s, faces)
	first, _ := module.Table(s, faces)
	again, _ := module.Table(s, faces)
	for i := range first {
		first[i] = api.Export{}
	}
	if now := fmt.Sprintf("%+v %+v", s, faces); now != before {
		t.Errorf("Table changed its arguments to %s", now)
	}
	clear(faces[0].Names)
	if !slices.Contains(again, api.Export{Name: "area", Full: "area@geo", Kind: api.DfGeneric, Arity: 1}) {
		t.Error("a table shares memory with an argument or another table")
	}
}
