package syntax_test

import (
	"slices"
	"strings"
	"testing"

	"skerry/api"
	"skerry/syntax"
)

func TestP4_4Free(t *testing.T) {
	for _, x := range []struct{ text, want string }{
		{"1", ""},
		{"x", "x"},
		{"begin let x = y; f(x) end", "y f"},
		{"f(x, f, y, x)", "f x y"},
		{"a.b", "b a"},
		{"p.x := 3", "x-setter p"},
		{"begin let x = x; x end", "x"},
		{"begin let x = 1; x end", ""},
		{"begin let x = 1; begin let x = 2; x end; x end", ""},
		{"begin begin let x = 1; x end; x end", "x"},
		{"begin x; let x = 1; x end", "x"},
		{"begin let f = method () f end; 1 end", "f"},
		{"begin local method f () f end; f end", ""},
		{"begin local method f (x) f(x, y) end; x end", "y x"},
		{"begin local method f (f) f end; 1 end", ""},
		{"begin f; local method f () 1 end; f end", "f"},
		{"method (x, y) f(y, x, z) end", "f z"},
		{"begin method (x) x end; x end", "x"},
		{"block (k) k(x) cleanup k(y) end", "x k y"},
		{"block () k end", "k"},
		{"block (k) k end", ""},
		{"begin let handler <e> = h; h end", "h"},
		{"begin let x = 1; let handler <e> = x; y end", "y"},
		{"instance?(x, <a>)", "x"},
		{"make(<a>, k: x, l: y)", "<a> x y"},
		{"next-method(x, y)", "x y"},
		{"a | b | a", "a b"},
		{"a & b", "a b"},
		{"if (c) a else b end", "c a b"},
		{"print(x) + quotient(y, object-class(z)) * signal(u)", "x y z u"},
		{"x@1 + x@0 + x", "x@1 x@0 x"},
		{"begin let x@1 = 1; x + x@1 end", "x"},
		{"load-patch(1)", ""},
		{"~ x - 1", "x"},
	} {
		if got := strings.Join(syntax.Free(expr(t, x.text)), " "); got != x.want {
			t.Errorf("Free of %q = %s; expected %s", x.text, got, x.want)
		}
	}
}

func TestP4_4Alpha(t *testing.T) {
	for _, x := range []struct {
		a, b string
		want bool
	}{
		{"x", "x", true},
		{"x", "y", false},
		{"1", "1", true},
		{"1", "2", false},
		{"1", "#t", false},
		{"#f", "#t", false},
		{"f(x)", "f(x)", true},
		{"f(x)", "f(x, x)", false},
		{"f(x)", "g(x)", false},
		{"begin a; b end", "if (a) b end", false},
		{"method (x) x end", "method (y) y end", true},
		{"method (x) x end", "method (x) y end", false},
		{"method (x) y end", "method (x) x end", false},
		{"method (x) y end", "method (y) y end", false},
		{"method (y) y end", "method (x) y end", false},
		{"method (x) z end", "method (y) z end", true},
		{"method (x, y) f(x, y) end", "method (y, x) f(y, x) end", true},
		{"method (x, y) f(x, y) end", "method (y, x) f(x, y) end", false},
		{"method (x, y) x end", "method (x) x end", false},
		{"method (x :: <a>) x end", "method (y :: <a>) y end", true},
		{"method (x :: <a>) x end", "method (y :: <b>) y end", false},
		{"method (x :: <a>) x end", "method (y) y end", false},
		{"begin let x = 1; x end", "begin let y = 1; y end", true},
		{"begin let x = x; x end", "begin let y = x; y end", true},
		{"begin let x = x; x end", "begin let y = y; y end", false},
		{"begin let x = 1; let y = 2; x end", "begin let x = 1; let x = 2; x end", false},
		{"begin let x = 1; let y = 2; y end", "begin let x = 1; let x = 2; x end", true},
		{"begin let x = 1; begin let y = 2; y end; x end", "begin let x = 1; begin let x = 2; x end; x end", true},
		{"begin begin let x = 1; x end; x end", "begin begin let y = 1; y end; y end", false},
		{"begin begin let x = 1; x end; x end", "begin begin let y = 1; y end; x end", true},
		{"begin local method f () f end; f end", "begin local method g () g end; g end", true},
		{"begin local method f () f end; f end", "begin local method g () f end; g end", false},
		{"begin local method f () 1 end; f end", "begin let f = method () 1 end; f end", false},
		{"begin let f = method () 1 end; f end", "begin local method f () 1 end; f end", false},
		{"begin local method f (x) f(x) end; f end", "begin local method x (f) x(f) end; x end", true},
		{"begin local method f (f) f end; f end", "begin local method g (f) f end; g end", true},
		{"begin local method f (f) f end; f end", "begin local method g (f) g end; g end", false},
		{"block (k) k end", "block (j) j end", true},
		{"block (k) k end", "block (j) k end", false},
		{"block (k) 1 end", "block () 1 end", false},
		{"block () 1 end", "block (k) 1 end", false},
		{"block () 1 end", "block () 1 end", true},
		{"block (k) 1 cleanup k end", "block (j) 1 cleanup k end", true},
		{"block (k) 1 cleanup k end", "block (j) 1 cleanup j end", false},
		{"block (k) 1 cleanup 2 end", "block (k) 1 end", false},
		{"begin let handler <e> = h; 1 end", "begin let handler <e> = h; 1 end", true},
		{"begin let handler <e> = h; 1 end", "begin let handler <f> = h; 1 end", false},
		{"instance?(x, <a>)", "instance?(x, <b>)", false},
		{"instance?(x, type-union(<a>, limited(1, 2)))", "instance?(x, type-union(<a>, limited(1, 2)))", true},
		{"instance?(x, type-union(<a>, limited(1, 2)))", "instance?(x, type-union(<a>, limited(1, 3)))", false},
		{"instance?(x, type-union(<a>, limited(1, 2)))", "instance?(x, type-union(<a>, limited(0, 2)))", false},
		{"instance?(x, type-union(<a>))", "instance?(x, type-union(<a>, <a>))", false},
		{"instance?(x, subclass(<a>))", "instance?(x, <a>)", false},
		{"make(c, k: 1)", "make(c, l: 1)", false},
		{"make(c, k: 1, l: 2)", "make(c, l: 1, k: 2)", false},
		{"make(c, k: 1)", "make(c)", false},
		{"a + b", "a + b", true},
		{"a + b", "a - b", false},
		{"print(a)", "signal(a)", false},
		{"load-patch(1)", "load-patch(2)", false},
		{"next-method()", "next-method()", true},
		{"next-method()", "next-method(x)", false},
		{"a | b", "a | b", true},
		{"a | b", "a | c", false},
		{"a | b", "begin let t = a; if (t) t else b end end", true}, // the name %| is bound, too
		{"a | t", "begin let t = a; if (t) t else t end end", false},
		{"method (x) x + y end", "method (x) x + z end", false},
		{"begin let x@1 = 1; x@1 end", "begin let x = 1; x end", true},
	} {
		a, b := expr(t, x.a), expr(t, x.b)
		if is := syntax.Alpha(a, b); is != x.want {
			t.Errorf("Alpha of %q and %q = %v", x.a, x.b, is)
		}
		if is := syntax.Alpha(b, a); is != x.want {
			t.Errorf("Alpha of %q and %q = %v", x.b, x.a, is)
		}
	}
}

// TestP4_4AlphaForm: Alpha is false if either of two expressions is not well-formed, even if they differ by the names of bound variables alone.
func TestP4_4AlphaForm(t *testing.T) {
	right, wrong := fn("", name("x"), "x"), fn("", name("let"), "let")
	if syntax.Alpha(right, wrong) || syntax.Alpha(wrong, right) || syntax.Alpha(wrong, wrong) || !syntax.Alpha(right, right) {
		t.Error("Alpha with an expression that is not well-formed is not right")
	}
}

func TestP4_5Setter(t *testing.T) {
	for _, x := range []struct{ name, want string }{
		{"x", "x-setter"},
		{"<x>", "<x>-setter"},
		{"x-setter", "x-setter-setter"},
		{"area@shapes", "area-setter@shapes"},
		{"x@0", "x-setter@0"},
		{"let", "let-setter"},
		{"", ""},
		{"x:", ""},
		{"1", ""},
		{"(", ""},
		{"x y", ""},
		{" x", ""},
		{"x@", ""},
		{"@x", ""},
		{"x@y@z", ""},
		{"%|", ""},
		{"x-", ""},
		{long, ""},
		{long[:33], long[:33] + "-setter"},
		{long[:34], ""},
		{"a@" + long[:31], "a-setter@" + long[:31]},
		{"a@" + long[:32], ""},
		{strings.Repeat("x", 30000), ""},
	} {
		if got := syntax.Setter(x.name); got != x.want {
			t.Errorf("Setter(%.60q) = %q; expected %q", x.name, got, x.want)
		}
	}
}

func TestP4_5Accessors(t *testing.T) {
	union := api.Type{Kind: api.TyUnion, Args: []api.Type{class("<c>"), {Kind: api.TyUnion, Args: []api.Type{class("<d>")}}}}
	c := api.ClassDef{Name: "<a>", Supers: []string{"<b>"}, Slots: []api.Slot{
		{Name: "x", Type: union, Alloc: api.SlInst, Key: "k", Init: []api.Expr{num(1)}},
		{Name: "y", Type: object(), Alloc: api.SlVirt},
		{Name: "z@l", Type: class("<c>"), Alloc: api.SlClass},
		{Name: "u", Type: object(), Alloc: api.SlEach},
	}}
	param := func(name string, t api.Type) api.Param { return api.Param{Name: name, Type: t} }
	pair := func(slot, setter string, typ api.Type) []api.Def {
		get := api.MethodDef{Generic: slot, Params: []api.Param{param("object", class("<a>"))}, Result: typ,
			Body: api.Expr{Kind: api.ExSlot, Name: slot, Args: []api.Expr{name("object")}}}
		set := api.MethodDef{Generic: setter, Params: []api.Param{param("value", typ), param("object", class("<a>"))}, Result: typ,
			Body: api.Expr{Kind: api.ExSet, Name: slot, Args: []api.Expr{name("object"), name("value")}}}
		return []api.Def{{Kind: api.DfMethod, Method: get}, {Kind: api.DfMethod, Method: set}}
	}
	want := slices.Concat(pair("x", "x-setter", union), pair("z@l", "z-setter@l", class("<c>")), pair("u", "u-setter", object()))
	got := syntax.Accessors(c)
	if !exactly(got, want) {
		t.Fatalf("Accessors = %+v; expected %+v", got, want)
	}
	// No two types of the result share memory, nor does one with the class.
	for i := range 3 {
		types := []*api.Type{&c.Slots[0].Type, &got[0].Method.Result, &got[1].Method.Params[0].Type, &got[1].Method.Result}
		types[i].Args[0].Name = "<e>"
		types[i].Args[1].Args[0].Name = "<f>"
		for _, u := range types[i+1:] {
			if u.Args[0].Name != "<c>" || u.Args[1].Args[0].Name != "<d>" {
				t.Fatalf("a change of the type %d changes another one to %+v", i, *u)
			}
		}
	}
	if l := syntax.Accessors(api.ClassDef{}); len(l) != 0 {
		t.Errorf("Accessors of a zero class = %+v", l)
	}
	// What is no class of a source.
	odd := syntax.Accessors(api.ClassDef{Name: "", Slots: []api.Slot{{Name: "1"}, {Name: long, Type: object(), Alloc: 9}}})
	if len(odd) != 4 || odd[0].Method.Generic != "1" || odd[1].Method.Generic != "" || odd[2].Method.Body.Name != long || odd[3].Method.Generic != "" {
		t.Errorf("Accessors of a class with odd names = %+v", odd)
	}
}

// TestP4_5AccessorsLarge: slots have their methods however many types they have, and however deep these are.
func TestP4_5AccessorsLarge(t *testing.T) {
	wide := func(n int) api.Type {
		return api.Type{Kind: api.TyUnion, Args: slices.Repeat([]api.Type{{Kind: api.TyBool}}, n)}
	}
	deep := func(n int) api.Type {
		x := class("<c>")
		for range n - 1 {
			x = api.Type{Kind: api.TyUnion, Args: []api.Type{x}}
		}
		return x
	}
	for _, x := range []struct {
		what  string
		slots []api.Slot
	}{
		{"a type of 2999 parts", []api.Slot{{Name: "x", Type: wide(2999)}}},
		{"a type of 3000 parts", []api.Slot{{Name: "x", Type: wide(3000)}}},
		{"a type of 300000 parts", []api.Slot{{Name: "x", Type: wide(300000)}}},
		{"types of 3000 parts in all", []api.Slot{{Name: "x", Type: wide(1000)}, {Name: "y", Type: wide(1000)}, {Name: "z", Type: wide(1000)}}},
		{"a type of 101 levels", []api.Slot{{Name: "x", Type: deep(101)}}},
		{"a type of 60000 levels", []api.Slot{{Name: "x", Type: deep(60000)}, {Name: "y", Type: deep(2)}}},
		{"10000 slots", slices.Repeat([]api.Slot{{Name: "x", Type: object(), Alloc: api.SlInst}}, 10000)},
	} {
		l := syntax.Accessors(api.ClassDef{Name: "<a>", Slots: x.slots})
		if len(l) != 2*len(x.slots) {
			t.Errorf("%s: %d methods", x.what, len(l))
			continue
		}
		for i, d := range l {
			s, m := x.slots[i/2], d.Method
			if !sameTypes(m.Result, s.Type) || i%2 == 1 && !sameTypes(m.Params[0].Type, s.Type) {
				t.Errorf("%s: the method %d has another type", x.what, i)
			}
		}
	}
}

// sameTypes compares types of any number of levels, and of equal numbers of parts.
func sameTypes(a, b api.Type) bool {
	for i := range a.Args {
		if len(a.Args) != len(b.Args) || !sameTypes(a.Args[i], b.Args[i]) {
			return false
		}
	}
	return a.Kind == b.Kind && a.Name == b.Name && len(a.Args) == len(b.Args)
}

// TestP4_5AccessorsEndless: types that contain themselves are beyond what the document speaks of, but Accessors ends for them, too.
func TestP4_5AccessorsEndless(t *testing.T) {
	for _, n := range []int{1, 2, 16} {
		l := make([]api.Type, n)
		for i := range l {
			l[i] = api.Type{Kind: api.TyUnion, Args: l}
		}
		right := api.Slot{Name: "x", Type: object(), Alloc: api.SlInst}
		endless := api.Slot{Name: "y", Type: l[0], Alloc: api.SlInst}
		if l := syntax.Accessors(api.ClassDef{Name: "c", Slots: []api.Slot{right, endless}}); len(l) != 0 {
			t.Errorf("a type that contains itself %d times: %d methods", n, len(l))
		}
		endless.Alloc = api.SlVirt
		if l := syntax.Accessors(api.ClassDef{Name: "c", Slots: []api.Slot{endless, right}}); len(l) != 2 {
			t.Errorf("a virtual slot whose type contains itself %d times: %d methods", n, len(l))
		}
	}
}

// TestP4_5AccessorsMany: Accessors ends for a type that has itself little memory, but more copies of parts than a result has room for.
func TestP4_5AccessorsMany(t *testing.T) {
	var x api.Type
	for range 60 {
		x = api.Type{Kind: api.TyUnion, Args: []api.Type{x, x}}
	}
	if l := syntax.Accessors(api.ClassDef{Name: "c", Slots: []api.Slot{{Name: "x", Type: x, Alloc: api.SlInst}}}); len(l) != 0 {
		t.Errorf("a type with very many parts: %d methods", len(l))
	}
}
