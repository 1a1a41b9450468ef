package module_test

import (
	"fmt"
	"slices"
	"strings"
	"testing"

	"skerry/api"
	"skerry/module"
	"skerry/syntax"
)

func TestP5_1Resolve(t *testing.T) {
	for _, x := range []struct {
		text string
		want []string
	}{
		{"library b;", nil},
		{"library b; use geo; define class <disc> (<shape>) slot r; end; define method area (d :: <disc>) r(d) end;", []string{
			"generic r@b 1",
			"generic r-setter@b 2",
			"class <disc>@b of <shape>@geo; 1 r@b :: <object>",
			"method r@b (object :: <disc>@b) => <object>: get r@b object",
			"method r-setter@b (value :: <object>) (object :: <disc>@b) => <object>: set r@b object value",
			"method area@geo (d :: <disc>@b) => <object>: r@b ( d )",
		}},
		{"library b; use geo, prefix: g_; define abstract sealed class <disc> (g_<shape>, <error>) end; define sealed generic f (x, y); define constant c = g_area; define constant d = <disc>;", []string{
			"class <disc>@b of <shape>@geo <error> abstract sealed",
			"generic f@b 2 sealed",
			"constant c@b = area@geo",
			"constant d@b = <disc>@b",
		}},
		{"library b; use geo, import: { area => size, <shape> }; define sealed domain size (<shape>, limited(-1, 3), subclass(<b>), singleton(#t), type-union(<b>, type-union(subclass(<shape>), <b>)), type-union());" +
			"define class <b> (<object>) end; define sealed method size (x :: <shape>, y == 1) => subclass(<b>) x + y end;", []string{
			"domain area@geo (<shape>@geo) (limited ( -1 , 3 )) (subclass ( <b>@b )) (singleton ( #t )) (type-union ( <b>@b , type-union ( subclass ( <shape>@geo ) , <b>@b ) )) (type-union ( ))",
			"class <b>@b of <object>",
			"method area@geo (x :: <shape>@geo) (y :: limited ( 1 , 1 )) => subclass ( <b>@b ): x + y",
			"domain area@geo (<shape>@geo) (limited ( 1 , 1 ))",
		}},
		// The names of slots: new ones, ones that are defined in this source, and ones from elsewhere.
		{"library b; define class <c> (<object>) slot x :: <c>, init-keyword: x:, init-value: c; class slot y :: <integer>, init-value: y; virtual slot z :: <c>; each-subclass slot w, init-keyword: c:; end; define constant c = 1;", []string{
			"generic x@b 1", "generic x-setter@b 2", "generic y@b 1", "generic y-setter@b 2", "generic z@b 1", "generic z-setter@b 2", "generic w@b 1", "generic w-setter@b 2",
			"class <c>@b of <object>; 1 x@b :: <c>@b x: = c@b; 2 y@b :: <integer> = y@b; 3 w@b :: <object> c:",
			"method x@b (object :: <c>@b) => <c>@b: get x@b object",
			"method x-setter@b (value :: <c>@b) (object :: <c>@b) => <c>@b: set x@b object value",
			"method y@b (object :: <c>@b) => <integer>: get y@b object",
			"method y-setter@b (value :: <integer>) (object :: <c>@b) => <integer>: set y@b object value",
			"method w@b (object :: <c>@b) => <object>: get w@b object",
			"method w-setter@b (value :: <object>) (object :: <c>@b) => <object>: set w@b object value",
			"constant c@b = 1",
		}},
		{"library b; define class <c> (<object>) slot x; end; define class <d> (<object>) slot y; slot x; end;", []string{
			"generic x@b 1", "generic x-setter@b 2",
			"class <c>@b of <object>; 1 x@b :: <object>",
			"method x@b (object :: <c>@b) => <object>: get x@b object",
			"method x-setter@b (value :: <object>) (object :: <c>@b) => <object>: set x@b object value",
			"generic y@b 1", "generic y-setter@b 2",
			"class <d>@b of <object>; 1 y@b :: <object>; 1 x@b :: <object>",
			"method y@b (object :: <d>@b) => <object>: get y@b object",
			"method y-setter@b (value :: <object>) (object :: <d>@b) => <object>: set y@b object value",
			"method x@b (object :: <d>@b) => <object>: get x@b object",
			"method x-setter@b (value :: <object>) (object :: <d>@b) => <object>: set x@b object value",
		}},
		{"library b; define class <c> (<object>) virtual slot x; end; define class <d> (<object>) slot x; end;", []string{
			"generic x@b 1", "generic x-setter@b 2",
			"class <c>@b of <object>",
			"class <d>@b of <object>; 1 x@b :: <object>",
			"method x@b (object :: <d>@b) => <object>: get x@b object",
			"method x-setter@b (value :: <object>) (object :: <d>@b) => <object>: set x@b object value",
		}},
		{"library b; define class <c> (<object>) slot x; end; define generic x (o);", []string{
			"generic x-setter@b 2",
			"class <c>@b of <object>; 1 x@b :: <object>",
			"method x@b (object :: <c>@b) => <object>: get x@b object",
			"method x-setter@b (value :: <object>) (object :: <c>@b) => <object>: set x@b object value",
			"generic x@b 1",
		}},
		{"library b; define sealed generic x-setter (v, o); define class <c> (<object>) slot x; virtual slot y; end;", []string{
			"generic x-setter@b 2 sealed",
			"generic x@b 1", "generic y@b 1", "generic y-setter@b 2",
			"class <c>@b of <object>; 1 x@b :: <object>",
			"method x@b (object :: <c>@b) => <object>: get x@b object",
			"method x-setter@b (value :: <object>) (object :: <c>@b) => <object>: set x@b object value",
		}},
		{"library b; use geo, import: { area => x }; define class <c> (<object>) slot x; end;", []string{
			"generic x-setter@b 2",
			"class <c>@b of <object>; 1 area@geo :: <object>",
			"method area@geo (object :: <c>@b) => <object>: get area@geo object",
			"method x-setter@b (value :: <object>) (object :: <c>@b) => <object>: set area@geo object value",
		}},
		{"library b; use a; use geo, import: { area => s }; define class <c> (<old>) slot r; slot s; end;", []string{
			"generic s-setter@b 2",
			"class <c>@b of <old>@a; 1 r@a :: <object>; 1 area@geo :: <object>",
			"method r@a (object :: <c>@b) => <object>: get r@a object",
			"method r-setter@a (value :: <object>) (object :: <c>@b) => <object>: set r@a object value",
			"method area@geo (object :: <c>@b) => <object>: get area@geo object",
			"method s-setter@b (value :: <object>) (object :: <c>@b) => <object>: set area@geo object value",
		}},
		// Patches.
		{"patch a; define class <old> (<shape>) slot r; slot size; slot gone; end; define method r (x :: <shape>) k end;", []string{
			"generic size-setter@a 2", "generic gone-setter@a 2",
			"class <old>@a of <shape>@geo; 1 r@a :: <object>; 1 area@geo :: <object>; 1 gone@a :: <object>",
			"method r@a (object :: <old>@a) => <object>: get r@a object",
			"method r-setter@a (value :: <object>) (object :: <old>@a) => <object>: set r@a object value",
			"method area@geo (object :: <old>@a) => <object>: get area@geo object",
			"method size-setter@a (value :: <object>) (object :: <old>@a) => <object>: set area@geo object value",
			"method gone@a (object :: <old>@a) => <object>: get gone@a object",
			"method gone-setter@a (value :: <object>) (object :: <old>@a) => <object>: set gone@a object value",
			"method r@a (x :: <shape>@geo) => <object>: k@a",
		}},
		{"patch a; define class <new> (<old>) end; define class <new> (<old>) slot n; end; define generic r (o); define constant k = k; define sealed domain r (<new>);", []string{
			"class <new>@a of <old>@a",
			"generic n@a 1", "generic n-setter@a 2",
			"class <new>@a of <old>@a; 1 n@a :: <object>",
			"method n@a (object :: <new>@a) => <object>: get n@a object",
			"method n-setter@a (value :: <object>) (object :: <new>@a) => <object>: set n@a object value",
			"generic r@a 1",
			"constant k@a = k@a",
			"domain r@a (<new>@a)",
		}},
	} {
		s := source(t, x.text)
		lib, main, e := module.Resolve(s, more())
		if e != api.OK || !slices.Equal(showDefs(lib.Defs), x.want) || lib.Name != s.Name || len(main) != 0 {
			t.Errorf("Resolve of %q = %s: %s, %v, %v; expected\n%s", x.text, lib.Name, strings.Join(showDefs(lib.Defs), "\n"), main, e, strings.Join(x.want, "\n"))
		}
		var libs []string
		for _, u := range s.Uses {
			libs = append(libs, u.Lib)
		}
		if !slices.Equal(lib.Uses, libs) {
			t.Errorf("Resolve of %q uses %q", x.text, lib.Uses)
		}
	}
}

// TestP5_1Alone: a definition has the fields of its kind alone.
func TestP5_1Alone(t *testing.T) {
	lib, _, e := module.Resolve(source(t, "library b; define class <c> (<object>) slot x; end; define generic f (); define method f () 1 end; define sealed domain f (); define constant c = 1;"), nil)
	if e != api.OK || len(lib.Defs) != 9 {
		t.Fatalf("Resolve = %+v, %v", lib, e)
	}
	for _, d := range lib.Defs {
		alone := api.Def{Kind: d.Kind}
		switch d.Kind {
		case api.DfClass:
			alone.Class = d.Class
		case api.DfGeneric:
			alone.Generic = d.Generic
		case api.DfMethod:
			alone.Method = d.Method
		case api.DfDomain:
			alone.Domain = d.Domain
		case api.DfConst:
			alone.Name, alone.Body = d.Name, d.Body
		}
		if !exactly(d, alone) {
			t.Errorf("the definition %+v has other fields than those of its kind", d)
		}
	}
}

// inB is the source within which expressions are resolved.
const inB = "library b; use geo; use gui, import: { draw => paint }; define constant x = 1; define constant y = 2; define generic y-setter (v, o); define class <c> (<object>) end;"

// exprs are expressions, and what they are resolved to in inB.
var exprs = []struct{ text, want string }{
	{"12", "12"},
	{"#f", "#f"},
	{"x", "x@b"},
	{"<c>", "<c>@b"},
	{"<object>", "<object>"},
	{"area", "area@geo"},
	{"x(y, paint(x))", "x@b ( y@b , draw@gui ( x@b ) )"},
	{"if (x) y else area end", "if ( x@b ) y@b else area@geo end"},
	{"begin let x = x; x + y end", "begin let x = x@b ; x + y@b end"},
	{"begin let x = begin let y = x; y end; y end", "begin let x = begin let y = x@b ; y end ; y@b end"},
	{"begin begin let x = 1; x end; x end", "begin begin let x = 1 ; x end ; x@b end"},
	{"begin local method x (y) x(y, area) end; x(y) end", "begin local method x ( y :: <object> ) x ( y , area@geo ) end ; x ( y@b ) end"},
	{"begin let x = method (y) x(y) end; x end", "begin let x = method ( y :: <object> ) x@b ( y ) end ; x end"},
	{"method (x :: <shape>, area :: <c>) x(y, area) end", "method ( x :: <shape>@geo , area :: <c>@b ) x ( y@b , area ) end"},
	{"method (<c> :: <c>) instance?(<c>, <c>) end", "method ( <c> :: <c>@b ) instance? ( <c> , <c>@b ) end"},
	{"block (x) x(y) cleanup x(y) end", "block ( x ) x ( y@b ) cleanup x@b ( y@b ) end"},
	{"block () x(y) cleanup y end", "block ( ) x@b ( y@b ) cleanup y@b end"},
	{"begin let handler <c> = x; area end", "begin let handler <c>@b = x@b ; area@geo end"},
	{"begin let handler type-union(<c>, subclass(<shape>)) = method (x) x end; x end", "begin let handler type-union ( <c>@b , subclass ( <shape>@geo ) ) = method ( x :: <object> ) x end ; x@b end"},
	{"next-method(x)", "next-method ( x@b )"},
	{"make(<c>, x: x, y: area)", "make ( <c>@b , x: x@b , y: area@geo )"},
	{"instance?(x, limited(1, 2))", "instance? ( x@b , limited ( 1 , 2 ) )"},
	{"load-patch(3)", "load-patch ( 3 )"},
	{"x + print(y)", "x@b + print ( y@b )"},
	{"x | y & x", "x@b | y@b & x@b"},
	{"x.y := area", "y-setter@b ( area@geo , x@b )"},
	// Variables that macros inserted.
	{"x@0", "x@b"},
	{"begin let x = 1; x@0(x) end", "begin let x = 1 ; x@b ( x ) end"},
	{"begin let x@0 = 1; x@0(x) end", "begin let x@0 = 1 ; x@0 ( x@b ) end"},
	{"begin let x@1 = 1; x@1(x, x@0) end", "begin let x@1 = 1 ; x@1 ( x@b , x@b ) end"},
	{"y-setter@0(1)", "y-setter@b ( 1 )"},
	{"begin let x@b = 1; x@b end", "begin let x@b = 1 ; x@b end"},
}

func TestP5_1Exprs(t *testing.T) {
	for _, x := range exprs {
		want := expr(t, x.want)
		s := source(t, inB+" define constant value = "+x.text+"; define method area (z, <shape>) "+x.text+" end; define class <e> (<object>) slot s, init-value: "+x.text+"; end; "+x.text+";")
		lib, main, e := module.Resolve(s, more())
		if e != api.OK || len(main) != 1 || len(lib.Defs) != 11 {
			t.Errorf("Resolve of %q = %q, %v", x.text, showDefs(lib.Defs), e)
			continue
		}
		for where, body := range map[string]api.Expr{"main": main[0], "constant": lib.Defs[4].Body, "method": lib.Defs[5].Method.Body, "init": lib.Defs[8].Class.Slots[0].Init[0]} {
			if !exactly(body, want) {
				t.Errorf("%q (%s) becomes %q; expected %q", x.text, where, showExpr(body), x.want)
			}
		}
		table, _ := module.Table(s, more())
		if y, e := module.Expr(table, expr(t, x.text)); e != api.OK || !exactly(y, want) {
			t.Errorf("Expr of %q = %q, %v; expected %q", x.text, showExpr(y), e, x.want)
		}
	}
}

// TestP5_1Params: the parameters of a method are bound in its body, and nowhere else.
func TestP5_1Params(t *testing.T) {
	s := source(t, inB+" define method area (x :: <c>, <c>) x(y, <c>, x@0) end; define method area (y) x end;")
	lib, _, e := module.Resolve(s, more())
	want := []string{"method area@geo (x :: <c>@b) (<c> :: <object>) => <object>: x ( y@b , <c> , x@b )", "method area@geo (y :: <object>) => <object>: x@b"}
	if e != api.OK || !slices.Equal(showDefs(lib.Defs[4:]), want) {
		t.Errorf("Resolve = %q, %v", showDefs(lib.Defs), e)
	}
}

// TestP5_1ErrorOrder has the errors behind those of the table: each text is refused for what stands first.
func TestP5_1ErrorOrder(t *testing.T) {
	const unbound, sort, export = api.ErrUnbound, api.ErrSort, api.ErrExport
	for _, x := range []struct {
		text string
		want api.Errno
	}{
		// What each place demands.
		{"define method volume () 1 end", unbound},
		{"define method <shape> () 1 end", sort},
		{"define method x () 1 end", sort},
		{"define method area (x :: <no>) 1 end", unbound},
		{"define method area (x :: area) 1 end", sort},
		{"define method area (x :: x) 1 end", sort},
		{"define method area () => <no> 1 end", unbound},
		{"define method area () => x 1 end", sort},
		{"define method area () no end", unbound},
		{"define method area (no) no end", api.OK},
		{"define method area (a, b, c) <c>(area, x) end", api.OK},
		{"define sealed domain no ()", unbound},
		{"define sealed domain x ()", sort},
		{"define sealed domain <c> ()", sort},
		{"define sealed domain area (<c>, <no>)", unbound},
		{"define sealed domain area (<c>, subclass(area))", sort},
		{"define sealed domain area (<c>, subclass(<c>), <object>)", api.OK},
		{"define sealed domain area (type-union(<c>, type-union(subclass(<no>))))", unbound},
		{"define sealed domain area (type-union(<c>, type-union(subclass(x))))", sort},
		{"define class <d> (<no>) end", unbound},
		{"define class <d> (<c>, x) end", sort},
		{"define class <d> (<c>, area) end", sort},
		{"define class <d> (<d>) end", api.OK},
		{"define class <d> (<c>) slot a :: <no>; end", unbound},
		{"define class <d> (<c>) slot a :: x; end", sort},
		{"define class <d> (<c>) virtual slot a :: <no>; end", unbound},
		{"define class <d> (<c>) virtual slot a :: x; end", sort},
		{"define class <d> (<c>) slot a, init-value: no; end", unbound},
		{"define class <d> (<c>) slot a, init-value: a(x, <c>); end", api.OK},
		{"define constant a = no", unbound},
		{"define constant a = a", api.OK},
		{"define generic a (no)", api.OK},
		// Slots: their getters take one argument, and their setters two.
		{"define class <d> (<c>) slot area; end", api.OK},
		{"define class <d> (<c>) slot draw; end", sort},
		{"define class <d> (<c>) slot <shape>; end", sort},
		{"define class <d> (<c>) slot depth; end", sort},
		{"define class <d> (<c>) virtual slot draw; end", sort},
		{"define class <d> (<c>) virtual slot depth; end", sort},
		{"define class <d> (<c>) slot a; end; define generic a (o)", api.OK},
		{"define class <d> (<c>) slot a; end; define generic a ()", sort},
		{"define class <d> (<c>) slot a; end; define generic a (v, o)", sort},
		{"define class <d> (<c>) slot a; end; define generic a-setter (o)", sort},
		{"define class <d> (<c>) slot a; end; define generic a-setter (v, o)", api.OK},
		{"define class <d> (<c>) slot a; end; define generic a-setter (v, o, x)", sort},
		{"define class <d> (<c>) virtual slot a; end; define generic a-setter (v, o, x)", sort},
		{"define class <d> (<c>) slot a; slot a-setter; end; define generic a-setter (v, o)", sort},
		// Names with @ denote nothing; but @0 is left out at the end of a variable.
		{"x@b", unbound},
		{"area@geo", unbound},
		{"x@1", unbound},
		{"x@00", unbound},
		{"no@0", unbound},
		{"x@0", api.OK},
		{"define method area@0 () 1 end", unbound},
		{"define class <d> (<c>@0) end", unbound},
		{"define class <d> (<c>) slot a :: <c>@0; end", unbound},
		{"instance?(1, <c>@0)", unbound},
		// The order within a definition.
		{"define class <d> (<no>, x) slot draw; end", unbound},
		{"define class <d> (x, <no>) slot draw; end", sort},
		{"define class <d> (<c>, <no>) slot draw; end", unbound},
		{"define class <d> (<c>) slot draw :: <no>; end", sort},
		{"define class <d> (<c>) slot a :: <no>; slot draw; end", unbound},
		{"define class <d> (<c>) slot a :: x, init-value: no; slot draw; end", sort},
		{"define class <d> (<c>) slot a, init-value: no; slot draw; end", unbound},
		{"define class <d> (<c>) slot a; slot draw, init-value: no; end", sort},
		{"define method x (a :: <no>) => <no> no end", sort},
		{"define method no (a :: x) => x instance?(1, x) end", unbound},
		{"define method area (a :: x, b :: <no>) => <no> no end", sort},
		{"define method area (a :: <no>, b :: x) => x instance?(1, x) end", unbound},
		{"define method area (a) => x no end", sort},
		{"define method area (a) => <no> instance?(1, x) end", unbound},
		{"define sealed domain x (<no>)", sort},
		{"define sealed domain no (x)", unbound},
		{"define sealed domain area (x, <no>)", sort},
		{"define sealed domain area (<no>, x)", unbound},
		{"define sealed method area (a :: <no>) instance?(1, x) end", unbound},
		// The order within an expression: its type, its parameters, itself, its parts.
		{"instance?(no, x)", sort},
		{"instance?(instance?(1, x), <no>)", unbound},
		{"begin let handler x = no; 1 end", sort},
		{"begin let handler <no> = instance?(1, x); 1 end", unbound},
		{"begin let handler <c> = instance?(1, x); no end", sort},
		{"method (a :: x, b :: <no>) no end", sort},
		{"method (a :: <no>, b :: x) instance?(1, x) end", unbound},
		{"method (a :: x) no end", sort},
		{"f(no, instance?(1, x))", unbound},
		{"x(instance?(1, x), no)", sort},
		{"make(no, k: instance?(1, x))", unbound},
		{"make(instance?(1, x), k: no)", sort},
		{"instance?(1, type-union(x, <no>))", sort},
		{"instance?(1, type-union(<no>, x))", unbound},
		// The order of definitions, and what follows them.
		{"define constant a = no; define constant b = instance?(1, x)", unbound},
		{"define constant a = instance?(1, x); define constant b = no", sort},
		{"define constant a = no; instance?(1, x)", unbound},
		{"define constant a = instance?(1, x); no", sort},
		{"define generic f (); no", unbound},
		{"define class <d> (<c>) slot a; end; instance?(1, x)", sort},
	} {
		for _, exports := range []string{"", "export none; "} {
			s := source(t, "library b; use geo; use gui, import: { draw, depth }; "+exports+"define constant x = 1; define class <c> (<object>) end; "+x.text+";")
			want := x.want
			if want == api.OK && exports != "" {
				want = export
			}
			lib, main, e := module.Resolve(s, more())
			if e != want || e != api.OK && (main != nil || !exactly(lib, api.Library{})) {
				t.Errorf("Resolve of %q (%s) = %+v, %+v, %v; expected %v", x.text, exports, lib, main, e, want)
			}
			if f, e := module.Faced(s, more()); e != want || e != api.OK && !exactly(f, api.Face{}) {
				t.Errorf("Faced of %q (%s) = %+v, %v; expected %v", x.text, exports, f, e, want)
			}
			if f, e := module.Whole(s, more()); e != want || e != api.OK && !exactly(f, api.Face{}) {
				t.Errorf("Whole of %q (%s) = %+v, %v; expected %v", x.text, exports, f, e, want)
			}
			if _, e := module.Table(s, more()); e != api.OK {
				t.Errorf("Table of %q = %v", x.text, e)
			}
			l, e := module.Missing(s, more())
			if e != api.OK || want == unbound && len(l) == 0 || want == api.OK && len(l) > 0 {
				t.Errorf("Missing of %q = %q, %v", x.text, l, e)
			}
		}
	}
}

func TestP5_1Exports(t *testing.T) {
	for _, x := range []struct {
		exports, faced string
		want           api.Errno
	}{
		{"c, <c>, s, s-setter, f", "c=c@b! <c>=<c>@b s=s@b/1 s-setter=s-setter@b/2 f=f@b/3", api.OK},
		{"f, area, <shape>, c", "f=f@b/3 area=area@geo/1 <shape>=<shape>@geo c=c@b!", api.OK},
		{"paint", "paint=draw@gui/3", api.OK},
		{"draw", "", api.ErrExport},
		{"c, no, f", "", api.ErrExport},
		{"<object>", "", api.ErrExport},
		{"c, <fault>", "", api.ErrExport},
		{"local@0", "", api.ErrForm},
	} {
		s := source(t, "library b; use geo; use gui, import: { draw => paint }; define constant c = 1; define class <c> (<object>) slot s; end; define generic f (x, y, z);")
		s.Exports = strings.Split(x.exports, ", ")
		f, e := module.Faced(s, more())
		if e != x.want || show(f.Names) != x.faced || (f.Lib == "b") != (e == api.OK) {
			t.Errorf("Faced with the exports %q = %s: %s, %v; expected %s, %v", x.exports, f.Lib, show(f.Names), e, x.faced, x.want)
		}
		w, e := module.Whole(s, more())
		const all = "<shape>=<shape>@geo area=area@geo/1 paint=draw@gui/3 c=c@b! <c>=<c>@b s=s@b/1 s-setter=s-setter@b/2 f=f@b/3"
		if e != x.want || e == api.OK && (show(w.Names) != all || w.Lib != "b") {
			t.Errorf("Whole with the exports %q = %s: %s, %v; expected %v", x.exports, w.Lib, show(w.Names), e, x.want)
		}
		if _, _, e := module.Resolve(s, more()); e != x.want {
			t.Errorf("Resolve with the exports %q = %v; expected %v", x.exports, e, x.want)
		}
	}
	// A patch exports nothing; its whole face is that of its library, and what is new.
	s := source(t, "patch a; define class <old> (<object>) slot n; end;")
	f, e := module.Faced(s, more())
	w, e2 := module.Whole(s, more())
	if e != api.OK || f.Lib != "a" || len(f.Names) != 0 || e2 != api.OK || w.Lib != "a" || show(w.Names) != show(more()[2].Names)+" n=n@a/1 n-setter=n-setter@a/2" {
		t.Errorf("Faced and Whole of a patch = %+v, %v, %+v, %v", f, e, w, e2)
	}
}

func TestP5_1WholeLong(t *testing.T) {
	faces := []api.Face{numbered("l", "x", 299), numbered("m", "y", 1)}
	s := source(t, "library a; use l; define constant c = 1; c;")
	if w, e := module.Whole(s, faces); e != api.OK || len(w.Names) != 300 {
		t.Errorf("Whole of 300 names = %d names, %v", len(w.Names), e)
	}
	s = source(t, "library a; use l; use m; define constant c = 1; c;")
	if w, e := module.Whole(s, faces); e != api.ErrLong || !exactly(w, api.Face{}) {
		t.Errorf("Whole of 301 names = %d names, %v", len(w.Names), e)
	}
	if f, e := module.Faced(s, faces); e != api.OK || f.Lib != "a" {
		t.Errorf("Faced, with 301 names in the table = %+v, %v", f, e)
	}
	s.Exports = []string{"no"}
	if _, e := module.Whole(s, faces); e != api.ErrExport {
		t.Errorf("Whole of 301 names with an export that is not there = %v", e)
	}
}

// TestP5_1Large resolves the largest sources.
func TestP5_1Large(t *testing.T) {
	s := api.Source{Name: "a"}
	object := api.Type{Kind: api.TyClass, Name: "<object>"}
	for i := range 187 {
		c := api.ClassDef{Name: fmt.Sprint("c", i), Supers: []string{"<object>"}}
		for j := range api.MaxSlots {
			c.Slots = append(c.Slots, api.Slot{Name: fmt.Sprintf("s%d", (i*api.MaxSlots+j)%900), Type: object, Alloc: 1})
		}
		s.Defs = append(s.Defs, api.Def{Kind: api.DfClass, Class: c})
	}
	lib, _, e := module.Resolve(s, nil)
	if e != api.OK || len(lib.Defs) != 187+1800+2*187*16 {
		t.Errorf("Resolve of a source of 2992 slots = %d definitions, %v", len(lib.Defs), e)
	}
	deep := api.Expr{Kind: api.ExVar, Name: "v0"}
	for i := range 99 {
		deep = api.Expr{Kind: api.ExBlock, Name: fmt.Sprint("v", i%2), Args: []api.Expr{deep}}
	}
	if l, e := module.Missing(api.Source{Name: "a", Main: []api.Expr{deep}}, nil); e != api.OK || len(l) > 0 {
		t.Errorf("Missing of a deep expression = %q, %v", l, e)
	}
	if _, e := module.Table(api.Source{Name: "a", Main: []api.Expr{{Kind: api.ExBlock, Args: []api.Expr{{Kind: api.ExBlock, Args: []api.Expr{deep}}}}}}, nil); e != api.ErrDeep {
		t.Errorf("Table of an expression that is too deep = %v", e)
	}
}

// scramble changes everything in a value that is reached by its slices.
func scramble(lib api.Library, main []api.Expr) {
	var typ func(t *api.Type)
	typ = func(t *api.Type) {
		for i := range t.Args {
			typ(&t.Args[i])
			t.Args[i] = api.Type{Name: "?"}
		}
	}
	params := func(l []api.Param) {
		for i := range l {
			typ(&l[i].Type)
			l[i] = api.Param{Name: "?"}
		}
	}
	var exprs func(l []api.Expr)
	exprs = func(l []api.Expr) {
		for i := range l {
			typ(&l[i].Type)
			params(l[i].Params)
			exprs(l[i].Args)
			for j := range l[i].Keys {
				l[i].Keys[j] = "?"
			}
			l[i] = api.Expr{Name: "?"}
		}
	}
	for i, d := range lib.Defs {
		for j := range d.Class.Supers {
			d.Class.Supers[j] = "?"
		}
		for j := range d.Class.Slots {
			typ(&d.Class.Slots[j].Type)
			exprs(d.Class.Slots[j].Init)
			d.Class.Slots[j] = api.Slot{}
		}
		params(d.Method.Params)
		typ(&d.Method.Result)
		exprs([]api.Expr{d.Method.Body, d.Body})
		for j := range d.Domain.Types {
			typ(&d.Domain.Types[j])
			d.Domain.Types[j] = api.Type{}
		}
		lib.Defs[i] = api.Def{}
	}
	for i := range lib.Uses {
		lib.Uses[i] = "?"
	}
	exprs(main)
}

const everything = "library b; use geo; use gui, import: { draw => paint }; export area, c; " +
	"define class <c> (<shape>) slot s :: type-union(<c>, subclass(<c>)), init-keyword: s:, init-value: make(<c>, s: 1); end; define generic f (x, y); " +
	"define method f (x :: type-union(<c>, <shape>), y) => type-union(<c>) method (z :: type-union(<c>)) x(y, z) end end; " +
	"define sealed domain f (type-union(<c>), <shape>); define constant c = instance?(f(1, 2), type-union(<c>)); " +
	"begin let handler type-union(<c>, type-union(<shape>)) = area; make(<c>, s: block (x) x(1) end) end"

// TestP5_1Memory changes results, and compares the arguments and other results with what they were.
func TestP5_1Memory(t *testing.T) {
	s, faces := source(t, everything), more()
	before := fmt.Sprintf("%+v %+v", s, faces)
	lib, main, e := module.Resolve(s, faces)
	if e != api.OK {
		t.Fatalf("Resolve = %v", e)
	}
	other, otherMain, _ := module.Resolve(s, faces)
	f, _ := module.Faced(s, faces)
	w, _ := module.Whole(s, faces)
	x, _ := module.Expr(entries("<c>=<c>@b f=f@b/2 <shape>=<shape>@geo x=x! y=y!"), s.Defs[2].Method.Body)
	y, _ := module.Type(entries("<c>=<c>@b <shape>=<shape>@geo"), s.Defs[2].Method.Params[0].Type)
	results := func() string {
		return fmt.Sprintf("%+v %+v %+v %+v %+v %+v", other, otherMain, f, w, x, y)
	}
	want := results()
	scramble(lib, main)
	if now := fmt.Sprintf("%+v %+v", s, faces); now != before || results() != want {
		t.Error("the resolved library shares memory with an argument or another result")
	}
	scramble(api.Library{Uses: s.Exports, Defs: s.Defs}, s.Main)
	for i := range faces {
		clear(faces[i].Names)
		faces[i] = api.Face{}
	}
	for i := range s.Uses {
		clear(s.Uses[i].Names)
		s.Uses[i] = api.Use{}
	}
	if results() != want {
		t.Error("a result shares memory with an argument")
	}
	clear(f.Names)
	if len(w.Names) == 0 || slices.Contains(w.Names, api.Export{}) {
		t.Error("the two faces share memory")
	}
}

// TestP5_1MemoryWithin: the parts of one result share no memory, not even the types of a slot and of its accessors.
func TestP5_1MemoryWithin(t *testing.T) {
	lib, _, e := module.Resolve(source(t, everything), more())
	if e != api.OK || len(lib.Defs) < 5 || lib.Defs[2].Kind != api.DfClass {
		t.Fatalf("Resolve = %+v, %v", lib, e)
	}
	want := showDefs(lib.Defs[3:5])
	clear(lib.Defs[2].Class.Slots[0].Type.Args)
	if got := showDefs(lib.Defs[3:5]); !slices.Equal(got, want) {
		t.Errorf("the accessors share the memory of the slot: %q", got)
	}
	set := fmt.Sprintf("%+v", lib.Defs[4])
	clear(lib.Defs[3].Method.Result.Args)
	if fmt.Sprintf("%+v", lib.Defs[4]) != set {
		t.Error("the accessors share memory")
	}
	clear(lib.Defs[4].Method.Params[0].Type.Args)
	if len(lib.Defs[4].Method.Result.Args) != 2 || syntax.CheckType(lib.Defs[4].Method.Result) != api.OK {
		t.Error("the types of a setter share memory")
	}
}
