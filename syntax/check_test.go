package syntax_test

import (
	"fmt"
	"math"
	"slices"
	"strings"
	"testing"

	"skerry/api"
	"skerry/syntax"
)

func TestP4_3IsReserved(t *testing.T) {
	const words = "abstract begin block class cleanup constant define domain each-subclass else elseif end export generic handler if import instance? let library limited load-patch local macro make method next-method object-class patch prefix print quotient sealed signal singleton slot subclass type-union use virtual"
	for _, w := range strings.Fields(words) {
		if !syntax.IsReserved(w) {
			t.Errorf("IsReserved(%q) is false", w)
		}
		for _, other := range []string{w + "@a", w + "x", w + ":", " " + w, w[1:], strings.ToUpper(w)} {
			if syntax.IsReserved(other) {
				t.Errorf("IsReserved(%q) is true", other)
			}
		}
	}
	for _, w := range []string{"", "x", "not", "class-of", "%|", "(", "#t", "prefix:", "import:", "init-keyword", "init-value", "+", "<object>"} {
		if syntax.IsReserved(w) {
			t.Errorf("IsReserved(%q) is true", w)
		}
	}
}

// prim, call and so on make expressions.
func prim(name string, args ...api.Expr) api.Expr {
	return api.Expr{Kind: api.ExPrim, Name: name, Args: args}
}

func call(args ...api.Expr) api.Expr { return api.Expr{Kind: api.ExCall, Args: args} }

func let(name string, args ...api.Expr) api.Expr {
	return api.Expr{Kind: api.ExLet, Name: name, Args: args}
}

func iff(args ...api.Expr) api.Expr { return api.Expr{Kind: api.ExIf, Args: args} }

func seq(args ...api.Expr) api.Expr { return api.Expr{Kind: api.ExSeq, Args: args} }

func fn(name string, body api.Expr, params ...string) api.Expr {
	x := api.Expr{Kind: api.ExFn, Name: name, Args: []api.Expr{body}}
	for _, p := range params {
		x.Params = append(x.Params, api.Param{Name: p, Type: object()})
	}
	return x
}

func or(a, b api.Expr) api.Expr {
	return let("%|", a, iff(name("%|"), name("%|"), b))
}

// times returns a list of n times x.
func times[T any](n int, x T) []T {
	var l []T
	for range n {
		l = append(l, x)
	}
	return l
}

// keys returns a list of n keys.
func keys(n int) []string {
	var l []string
	for i := range n {
		l = append(l, fmt.Sprintf("k%d", i))
	}
	return l
}

const long = "abcdefghijklmnopqrstuvwxyz-abcdefghijklm" // as long as a name may be

// kinds are well-formed expressions of all kinds.
func kinds() map[int]api.Expr {
	return map[int]api.Expr{
		api.ExNum:    num(3),
		api.ExBool:   {Kind: api.ExBool, Num: 1},
		api.ExVar:    name("x"),
		api.ExCall:   call(name("f"), num(1)),
		api.ExIf:     iff(name("a"), num(1), num(2)),
		api.ExLet:    let("x", num(1), name("x")),
		api.ExSeq:    seq(num(1), num(2)),
		api.ExFn:     fn("", name("x"), "x"),
		api.ExBlock:  {Kind: api.ExBlock, Name: "k", Args: []api.Expr{num(1), num(2)}},
		api.ExHandle: {Kind: api.ExHandle, Type: class("<e>"), Args: []api.Expr{num(1), num(2)}},
		api.ExNext:   {Kind: api.ExNext, Args: []api.Expr{num(1)}},
		api.ExMake:   {Kind: api.ExMake, Keys: []string{"k"}, Args: []api.Expr{name("c"), num(1)}},
		api.ExPrim:   prim("+", num(1), num(2)),
		api.ExIs:     {Kind: api.ExIs, Type: class("<e>"), Args: []api.Expr{num(1)}},
		api.ExLoad:   {Kind: api.ExLoad, Num: 1},
	}
}

func TestP4_3Expressions(t *testing.T) {
	with := func(kind int, change func(*api.Expr)) api.Expr {
		x := kinds()[kind]
		change(&x)
		return x
	}
	args := func(kind, n int) api.Expr {
		return with(kind, func(x *api.Expr) { x.Args = times(n, num(1)) })
	}
	named := func(kind int, name string) api.Expr {
		return with(kind, func(x *api.Expr) { x.Name = name })
	}
	numbered := func(kind, n int) api.Expr {
		return with(kind, func(x *api.Expr) { x.Num = n })
	}
	made := func(keys []string, args int) api.Expr {
		return api.Expr{Kind: api.ExMake, Keys: keys, Args: times(args, num(1))}
	}
	for _, x := range []struct {
		what string
		e    api.Expr
		want bool
	}{
		{"a zero one", api.Expr{}, false},
		{"the least integer", num(math.MinInt), true},
		{"#f", numbered(api.ExBool, 0), true},
		{"a boolean 2", numbered(api.ExBool, 2), false},
		{"a boolean -1", numbered(api.ExBool, -1), false},
		{"a qualified variable", name("x@l"), true},
		{"a variable x@0", name("x@0"), true},
		{"a reserved word with an @", name("let@1"), true},
		{"a long variable", name(long), true},
		{"a variable that is too long", name(long + "n"), false},
		{"no name", name(""), false},
		{"a reserved word", name("let"), false},
		{"a keyword for a name", name("x:"), false},
		{"a sign for a name", name("+"), false},
		{"two names", name("x y"), false},
		{"the name %|", name("%|"), false},
		{"a call of 17", args(api.ExCall, 17), true},
		{"a call of 18", args(api.ExCall, 18), false},
		{"a call of 1", args(api.ExCall, 1), true},
		{"a call of nothing", args(api.ExCall, 0), false},
		{"an if of 2", args(api.ExIf, 2), false},
		{"an if of 4", args(api.ExIf, 4), false},
		{"a let of 1", args(api.ExLet, 1), false},
		{"a let of 3", args(api.ExLet, 3), false},
		{"a let of nothing", args(api.ExLet, 0), false},
		{"a let of x@1", let("x@1", num(1), num(2)), true},
		{"a let without a name", let("", num(1), num(2)), false},
		{"a let of a reserved word", let("if", num(1), num(2)), false},
		{"a sequence of 1", args(api.ExSeq, 1), false},
		{"a sequence of none", args(api.ExSeq, 0), false},
		{"a sequence of 2999", args(api.ExSeq, api.MaxNodes-1), true},
		{"a function without parameters", fn("", num(1)), true},
		{"a function of 6 parameters", fn("", num(1), "a", "b", "c", "d", "e", "f"), true},
		{"a function of 7 parameters", fn("", num(1), "a", "b", "c", "d", "e", "f", "g"), false},
		{"a function with a parameter twice", fn("", num(1), "a", "b", "a"), false},
		{"a function with a parameter let", fn("", num(1), "let"), false},
		{"a function with a parameter without a name", fn("", num(1), ""), false},
		{"a function with a parameter x@1", fn("", num(1), "x@1", "x"), true},
		{"a function with a parameter %|", fn("", num(1), "%|"), false},
		{"a function with a zero type", with(api.ExFn, func(x *api.Expr) { x.Params[0].Type = api.Type{} }), false},
		{"a function without a body", args(api.ExFn, 0), false},
		{"a function of 2", args(api.ExFn, 2), false},
		{"a function with a name", fn("f", num(1)), false},
		{"a function with the name of its let", let("f", fn("f", num(1)), num(2)), true},
		{"a function with another name than its let", let("f", fn("g", num(1)), num(2)), false},
		{"a function with a name that is the last one of its let", let("f", num(1), fn("f", num(1))), false},
		{"a function with a name within the first one of its let", let("f", seq(fn("f", num(1)), num(1)), num(1)), false},
		{"a function with a name that is no let's", seq(fn("f", num(1)), num(1)), false},
		{"a variable with the name of its let", let("f", name("f"), num(2)), true},
		{"a block without a name", named(api.ExBlock, ""), true},
		{"a block with a reserved word", named(api.ExBlock, "end"), false},
		{"a block %|", named(api.ExBlock, "%|"), false},
		{"a block of 1", args(api.ExBlock, 1), true},
		{"a block of 3", args(api.ExBlock, 3), false},
		{"a block of nothing", args(api.ExBlock, 0), false},
		{"a handler without a type", with(api.ExHandle, func(x *api.Expr) { x.Type = api.Type{} }), false},
		{"a handler of 1", args(api.ExHandle, 1), false},
		{"a handler of 3", args(api.ExHandle, 3), false},
		{"a next method without arguments", args(api.ExNext, 0), true},
		{"a next method of 6", args(api.ExNext, 6), true},
		{"a next method of 7", args(api.ExNext, 7), false},
		{"make without keys", made(nil, 1), true},
		{"make of nothing", made(nil, 0), false},
		{"make without a key", made(nil, 2), false},
		{"make with a key too much", made([]string{"k"}, 1), false},
		{"make of 16", made(keys(16), 17), true},
		{"make of 17", made(keys(17), 18), false},
		{"make with a key twice", made([]string{"a", "b", "a"}, 4), false},
		{"make with an empty key", made([]string{""}, 2), false},
		{"make with a colon", made([]string{"k:"}, 2), false},
		{"make with a reserved word", made([]string{"end"}, 2), true},
		{"make with a qualified key", made([]string{"k@l"}, 2), false},
		{"make with a sign", made([]string{":"}, 2), false},
		{"make with two names", made([]string{"a b"}, 2), false},
		{"make with a long key", made([]string{long[1:]}, 2), true},
		{"make with a key that is too long", made([]string{long}, 2), false},
		{"+ of 1", args(api.ExPrim, 1), false},
		{"+ of 3", args(api.ExPrim, 3), false},
		{"+ of nothing", args(api.ExPrim, 0), false},
		{"another operation", named(api.ExPrim, "/"), false},
		{"the operation ~", prim("~", num(1)), false},
		{"object-class", prim("object-class", num(1)), false},
		{"no operation", prim(""), false},
		{"is without a type", with(api.ExIs, func(x *api.Expr) { x.Type = api.Type{} }), false},
		{"is of 2", args(api.ExIs, 2), false},
		{"is of nothing", args(api.ExIs, 0), false},
		{"a patch 0", numbered(api.ExLoad, 0), true},
		{"a patch -1", numbered(api.ExLoad, -1), false},
		{"a patch with Args", args(api.ExLoad, 1), false},
		{"an integer with Args", args(api.ExNum, 1), false},
		{"a boolean with Args", args(api.ExBool, 1), false},
		{"a variable with Args", args(api.ExVar, 1), false},
		{"a zero one within", call(num(1), api.Expr{}), false},
		{"a wrong one deep within", iff(num(1), fn("", seq(num(1), name("let"))), num(1)), false},
		{"or", or(num(1), num(2)), true},
		{"or within or", or(or(num(1), num(2)), or(num(3), num(4))), true},
		{"or, whose second one has %|", or(num(1), name("%|")), false},
		{"or, whose first one has %|", or(name("%|"), num(1)), false},
		{"or, whose first one is a function %|", or(fn("%|", num(1)), num(1)), false},
		{"or with a wrong one", or(num(1), name("let")), false},
		{"or with another name", let("%|", num(1), iff(name("%|"), name("x"), num(2))), false},
		{"or with another test", let("%|", num(1), iff(num(1), name("%|"), num(2))), false},
		{"or with a longer if", let("%|", num(1), iff(name("%|"), name("%|"), num(2), num(3))), false},
		{"or with a shorter if", let("%|", num(1), iff(name("%|"), name("%|"))), false},
		{"or without an if", let("%|", num(1), num(2)), false},
		{"or with another kind", let("%|", num(1), seq(name("%|"), name("%|"), num(2))), false},
		{"or of 1", let("%|", num(1)), false},
		{"or of nothing", let("%|"), false},
		{"or with a field in its if", let("%|", num(1), api.Expr{Kind: api.ExIf, Num: 1, Args: []api.Expr{name("%|"), name("%|"), num(2)}}), false},
		{"or with a field in its variable", let("%|", num(1), iff(name("%|"), api.Expr{Kind: api.ExVar, Name: "%|", Num: 1}, num(2))), false},
		{"or with Args in its variable", let("%|", num(1), iff(api.Expr{Kind: api.ExVar, Name: "%|", Args: []api.Expr{num(1)}}, name("%|"), num(2))), false},
		{"or in another let", let("x", num(1), iff(name("%|"), name("%|"), num(2))), false},
		{"the if of an or", iff(name("%|"), name("%|"), num(2)), false},
	} {
		want, size := api.OK, 1
		if !x.want {
			want, size = api.ErrForm, 0
		}
		if e := syntax.CheckExpr(x.e); e != want {
			t.Errorf("%s: CheckExpr = %v; expected %v", x.what, e, want)
		}
		if n := syntax.Size(x.e); min(n, 1) != size {
			t.Errorf("%s: Size = %d", x.what, n)
		}
		checkUses(t, x.what, x.e, want)
	}
}

// checkUses checks what the other functions do with an expression of which CheckExpr is want.
func checkUses(t *testing.T, what string, x api.Expr, want api.Errno) {
	t.Helper()
	if text, e := syntax.PrintExpr(x); want != api.OK && (text != "" || e != want) {
		t.Errorf("%s: PrintExpr = %q, %v; expected %v", what, text, e, want)
	}
	if is := syntax.Alpha(x, x); is != (want == api.OK) {
		t.Errorf("%s: Alpha of itself = %v", what, is)
	}
	if syntax.Alpha(x, num(1)) && !exactly(x, num(1)) || syntax.Alpha(num(1), x) && !exactly(x, num(1)) {
		t.Errorf("%s: Alpha of it and 1 is true", what)
	}
	if l := syntax.Free(x); want != api.OK && len(l) != 0 {
		t.Errorf("%s: Free = %q", what, l)
	}
	for _, s := range []api.Source{
		{Name: "a", Main: []api.Expr{x}},
		{Name: "a", Defs: []api.Def{{Kind: api.DfConst, Name: "x", Body: x}}},
		{Name: "a", Defs: []api.Def{{Kind: api.DfMethod, Method: api.MethodDef{Generic: "f", Result: object(), Body: x}}}},
		{Name: "a", Defs: []api.Def{{Kind: api.DfClass, Class: api.ClassDef{Name: "c", Supers: []string{"d"}, Slots: []api.Slot{{Name: "s", Type: object(), Alloc: api.SlInst, Init: []api.Expr{x}}}}}}},
	} {
		if e := syntax.Check(s); e != want && e != api.ErrLong { // there are further types
			t.Errorf("%s: Check = %v; expected %v", what, e, want)
		}
		if text, e := syntax.Print(s); want != api.OK && (text != "" || e != syntax.Check(s)) {
			t.Errorf("%s: Print = %q, %v; expected %v", what, text, e, want)
		}
	}
}

// TestP4_3Kinds: an expression of each kind is well-formed, but no more with any other field.
func TestP4_3Kinds(t *testing.T) {
	fields := map[string]func(*api.Expr){
		"Name":   func(x *api.Expr) { x.Name = "x" },
		"Num":    func(x *api.Expr) { x.Num = 1 },
		"Type":   func(x *api.Expr) { x.Type = object() },
		"Params": func(x *api.Expr) { x.Params = []api.Param{{Name: "x", Type: object()}} },
		"Keys":   func(x *api.Expr) { x.Keys = []string{"k"} },
	}
	uses := map[int]string{
		api.ExNum: "Num", api.ExBool: "Num", api.ExVar: "Name", api.ExLet: "Name", api.ExFn: "Params", api.ExBlock: "Name",
		api.ExHandle: "Type", api.ExMake: "Keys", api.ExPrim: "Name", api.ExIs: "Type", api.ExLoad: "Num",
	}
	for kind := -1; kind < 25; kind++ {
		x, is := kinds()[kind]
		if !is {
			x = api.Expr{Kind: kind, Name: "x", Args: []api.Expr{num(1)}}
			if e := syntax.CheckExpr(x); e != api.ErrForm {
				t.Errorf("an expression of the kind %d: CheckExpr = %v; expected ErrForm", kind, e)
			}
			if e := syntax.CheckExpr(api.Expr{Kind: kind}); e != api.ErrForm {
				t.Errorf("a bare expression of the kind %d: CheckExpr = %v; expected ErrForm", kind, e)
			}
			continue
		}
		if e := syntax.CheckExpr(x); e != api.OK {
			t.Errorf("an expression of the kind %d: CheckExpr = %v", kind, e)
		}
		for field, set := range fields {
			if field == uses[kind] {
				continue
			}
			y := x
			set(&y)
			if e := syntax.CheckExpr(y); e != api.ErrForm {
				t.Errorf("an expression of the kind %d with a field %s: CheckExpr = %v; expected ErrForm", kind, field, e)
			}
		}
	}
	for _, kind := range []string{"+", "-", "*", "quotient", "<", "<=", ">", ">=", "=", "=="} {
		if syntax.CheckExpr(prim(kind, num(1), num(2))) != api.OK || syntax.CheckExpr(prim(kind, num(1))) != api.ErrForm {
			t.Errorf("the operation %s is not right", kind)
		}
	}
	for _, kind := range []string{"not", "print", "signal", "class-of"} {
		if syntax.CheckExpr(prim(kind, num(1))) != api.OK || syntax.CheckExpr(prim(kind, num(1), num(2))) != api.ErrForm {
			t.Errorf("the operation %s is not right", kind)
		}
	}
}

// union returns types within as many others as it is told.
func unions(n int, t api.Type) api.Type {
	for range n {
		t = api.Type{Kind: api.TyUnion, Args: []api.Type{t}}
	}
	return t
}

func TestP4_3Types(t *testing.T) {
	const form = api.ErrForm
	union := func(l ...api.Type) api.Type { return api.Type{Kind: api.TyUnion, Args: l} }
	for _, x := range []struct {
		what string
		t    api.Type
		want api.Errno
	}{
		{"a zero one", api.Type{}, form},
		{"a class", class("<a>"), api.OK},
		{"a qualified class", class("a@l"), api.OK},
		{"a reserved word", class("limited"), form},
		{"no name", class(""), form},
		{"a class with Lo", api.Type{Kind: api.TyClass, Name: "a", Lo: 1}, form},
		{"a class with Hi", api.Type{Kind: api.TyClass, Name: "a", Hi: 1}, form},
		{"a class with Args", api.Type{Kind: api.TyClass, Name: "a", Args: []api.Type{object()}}, form},
		{"a range", api.Type{Kind: api.TyInt, Lo: -1, Hi: 1}, api.OK},
		{"all integers", api.Type{Kind: api.TyInt, Lo: math.MinInt, Hi: math.MaxInt}, api.OK},
		{"an integer", api.Type{Kind: api.TyInt}, api.OK},
		{"an empty range", api.Type{Kind: api.TyInt, Lo: 1, Hi: 0}, form},
		{"a range with a name", api.Type{Kind: api.TyInt, Name: "a"}, form},
		{"a range with Args", api.Type{Kind: api.TyInt, Args: []api.Type{object()}}, form},
		{"#t", api.Type{Kind: api.TyBool, Lo: 1}, api.OK},
		{"a boolean 2", api.Type{Kind: api.TyBool, Lo: 2}, form},
		{"a boolean -1", api.Type{Kind: api.TyBool, Lo: -1}, form},
		{"a boolean with Hi", api.Type{Kind: api.TyBool, Lo: 1, Hi: 1}, form},
		{"a boolean with a name", api.Type{Kind: api.TyBool, Name: "a"}, form},
		{"a boolean with Args", api.Type{Kind: api.TyBool, Args: []api.Type{object()}}, form},
		{"a subclass", api.Type{Kind: api.TySub, Name: "a"}, api.OK},
		{"a subclass without a name", api.Type{Kind: api.TySub}, form},
		{"a subclass of a reserved word", api.Type{Kind: api.TySub, Name: "use"}, form},
		{"a subclass with Lo", api.Type{Kind: api.TySub, Name: "a", Lo: 1}, form},
		{"an empty union", union(), api.OK},
		{"a union of 16", union(times(16, object())...), api.OK},
		{"a union of 17", union(times(17, object())...), form},
		{"a union with a name", api.Type{Kind: api.TyUnion, Name: "a"}, form},
		{"a union with Lo", api.Type{Kind: api.TyUnion, Lo: 1}, form},
		{"a union with a wrong one", union(object(), union(class("let"))), form},
		{"a union with a zero one", union(object(), api.Type{}), form},
		{"another kind", api.Type{Kind: 6}, form},
		{"a kind below 0", api.Type{Kind: -1, Name: "a"}, form},
		{"100 unions", unions(99, object()), api.OK},
		{"101 unions", unions(100, object()), api.ErrDeep},
		{"unions without a kind", api.Type{Args: []api.Type{unions(98, object())}}, form},
		{"unions without a kind, too deep", api.Type{Args: []api.Type{unions(99, object())}}, api.ErrDeep},
		{"2999 types in a union", union(times(api.MaxNodes-1, object())...), form},
		{"3000 types in a union", union(times(api.MaxNodes, object())...), api.ErrLong},
		{"many zero types in a union", union(times(api.MaxNodes, api.Type{})...), form},
		{"too many, and too deep", union(append(times(api.MaxNodes, object()), unions(100, object()))...), api.ErrLong},
	} {
		if e := syntax.CheckType(x.t); e != x.want {
			t.Errorf("%s: CheckType = %v; expected %v", x.what, e, x.want)
		}
		if text, e := syntax.PrintType(x.t); e != x.want || (text != "") != (e == api.OK) {
			t.Errorf("%s: PrintType = %.60q, %v; expected %v", x.what, text, e, x.want)
		}
		y := api.Expr{Kind: api.ExIs, Type: x.t, Args: []api.Expr{num(1)}}
		if e := syntax.CheckExpr(y); e != x.want && !strings.Contains(x.what, "2999") {
			t.Errorf("%s: CheckExpr = %v; expected %v", x.what, e, x.want)
		}
		domain := api.Source{Name: "a", Defs: []api.Def{{Kind: api.DfDomain, Domain: api.DomainDef{Generic: "f", Types: []api.Type{x.t}}}}}
		if e := syntax.Check(domain); e != x.want {
			t.Errorf("%s: Check = %v; expected %v", x.what, e, x.want)
		}
	}
}

// deep returns an expression that consists of n others within each other.
func deep(n int) api.Expr {
	x := num(1)
	for range n - 1 {
		x = prim("not", x)
	}
	return x
}

func TestP4_3Limits(t *testing.T) {
	wrong := func(l ...api.Expr) api.Expr { return api.Expr{Kind: 99, Args: l} }
	is := func(t api.Type) api.Expr { return api.Expr{Kind: api.ExIs, Type: t, Args: []api.Expr{num(1)}} }
	for _, x := range []struct {
		what string
		e    api.Expr
		want api.Errno
	}{
		{"100 deep", deep(100), api.OK},
		{"101 deep", deep(101), api.ErrDeep},
		{"101 deep, and wrong", wrong(deep(100)), api.ErrDeep},
		{"100 deep, and wrong", wrong(deep(99)), api.ErrForm},
		{"3000", seq(times(api.MaxNodes-1, num(1))...), api.OK},
		{"3001", seq(times(api.MaxNodes, num(1))...), api.ErrLong},
		{"3001, and wrong", wrong(times(api.MaxNodes, num(1))...), api.ErrLong},
		{"3001, and deep, and wrong", wrong(append(times(api.MaxNodes-101, num(1)), deep(101))...), api.ErrLong},
		{"3001 without kinds", api.Expr{Args: times(api.MaxNodes, api.Expr{})}, api.ErrLong},
		{"3000 without kinds", api.Expr{Args: times(api.MaxNodes-1, api.Expr{})}, api.ErrForm},
		{"very deep", deep(api.MaxNodes), api.ErrDeep},
		{"very deep, and too many", deep(100000), api.ErrLong},
		{"types deep in a deep expression", seq(is(unions(99, object())), deep(99)), api.OK},
		{"types too deep", is(unions(100, object())), api.ErrDeep},
		{"types too deep in a field that is not used", api.Expr{Kind: api.ExNum, Type: unions(100, object())}, api.ErrDeep},
		{"a parameter too deep in a field that is not used", api.Expr{Kind: api.ExNum, Params: []api.Param{{Type: unions(100, object())}}}, api.ErrDeep},
		{"parameters that are too many", api.Expr{Kind: api.ExFn, Params: times(api.MaxNodes, api.Param{}), Args: []api.Expr{num(1)}}, api.ErrLong},
		{"parameters that are many", api.Expr{Kind: api.ExFn, Params: times(api.MaxNodes-2, api.Param{}), Args: []api.Expr{num(1)}}, api.ErrForm},
		{"1000 functions with a parameter", seq(times(999, fn("", num(1), "x"))...), api.OK},                                                                                 // 2998
		{"1000 functions with a parameter, and two more", seq(append(times(999, fn("", num(1), "x")), num(1), num(1))...), api.OK},                                           // 3000
		{"1000 functions with a parameter, and three more", seq(append(times(999, fn("", num(1), "x")), prim("not", num(1)), num(1))...), api.ErrLong},                       // 3001
		{"types count", seq(append(times(999, is(object())), num(1), num(1))...), api.OK},                                                                                    // 3000
		{"types count, and are too many", seq(append(times(999, is(object())), num(1), num(1), num(1))...), api.ErrLong},                                                     // 3001
		{"types in unions count", seq(append(times(599, is(api.Type{Kind: api.TyUnion, Args: times(2, object())})), times(4, num(1))...)...), api.OK},                        // 3000
		{"types in unions count, and are too many", seq(append(times(599, is(api.Type{Kind: api.TyUnion, Args: times(2, object())})), times(5, num(1))...)...), api.ErrLong}, // 3001
	} {
		if e := syntax.CheckExpr(x.e); e != x.want {
			t.Errorf("%s: CheckExpr = %v; expected %v", x.what, e, x.want)
		}
		checkUses(t, x.what, x.e, x.want)
	}
	// Trees that contain themselves have no end.
	l := []api.Expr{{Kind: api.ExNext}}
	l[0].Args = l
	k := []api.Type{{Kind: api.TyUnion}}
	k[0].Args = k
	for _, x := range []api.Expr{l[0], is(k[0]), fn("", l[0]), {Kind: api.ExFn, Params: []api.Param{{Name: "x", Type: k[0]}}, Args: []api.Expr{num(1)}}} {
		if e := syntax.CheckExpr(x); e != api.ErrLong {
			t.Errorf("CheckExpr of an expression that contains itself = %v; expected ErrLong", e)
		}
		checkUses(t, "an expression that contains itself", x, api.ErrLong)
	}
	if e := syntax.CheckType(k[0]); e != api.ErrLong {
		t.Errorf("CheckType of a type that contains itself = %v; expected ErrLong", e)
	}
}

func TestP4_3Size(t *testing.T) {
	for _, x := range []struct {
		text string
		want int
	}{
		{"1", 1}, {"f(x)", 3}, {"method (x) x end", 3}, {"method (x :: type-union(<a>, <b>)) x end", 5}, {"method () 1 end", 2},
		{"instance?(1, <a>)", 3}, {"a | b", 6}, {"a & b", 4}, {"make(c, k: 1)", 3}, {"begin let handler <e> = h; 1; 2 end", 6},
		{"next-method()", 1}, {"if (a) 1 end", 4}, {"block (k) 1 cleanup 2 end", 3}, {"load-patch(3)", 1}, {"- 1", 3},
	} {
		if n := syntax.Size(expr(t, x.text)); n != x.want {
			t.Errorf("Size of %q = %d; expected %d", x.text, n, x.want)
		}
	}
	if n := syntax.Size(api.Expr{}); n != 0 {
		t.Errorf("Size of a zero expression = %d", n)
	}
}

// whole is a source that has everything.
func whole(t *testing.T) api.Source {
	return source(t, "library a-1; use b; use c, prefix: d; use e, import: {f => g, h}; export i, <j>; "+
		"define abstract sealed class <j> (k, l@m) slot n :: <o>, init-keyword: p:, init-value: 1; class slot q; each-subclass slot r; virtual slot s; end; "+
		"define sealed generic t (u); define sealed method t (v :: <j>) => <w> v end; define constant x = 2; 3")
}

func TestP4_3Sources(t *testing.T) {
	if e := syntax.Check(whole(t)); e != api.OK {
		t.Fatalf("Check = %v", e)
	}
	uses := func(n int) (l []api.Use) {
		for i := range n {
			l = append(l, api.Use{Lib: fmt.Sprintf("l%d", i), All: true})
		}
		return l
	}
	def := func(i int, change func(*api.Def)) func(*api.Source) {
		return func(s *api.Source) { change(&s.Defs[i]) }
	}
	slot := func(i int, change func(*api.Slot)) func(*api.Source) {
		return func(s *api.Source) { change(&s.Defs[0].Class.Slots[i]) }
	}
	use := func(i int, change func(*api.Use)) func(*api.Source) {
		return func(s *api.Source) { change(&s.Uses[i]) }
	}
	slots := func(n int) (l []api.Slot) {
		for i := range n {
			l = append(l, api.Slot{Name: fmt.Sprintf("s%d", i), Type: object(), Alloc: api.SlInst})
		}
		return l
	}
	names := func(is ...string) (good []string) { return is }
	type change struct {
		what   string
		change func(*api.Source)
		want   bool
	}
	changes := []change{
		{"no uses, exports, definitions, main", func(s *api.Source) { *s = api.Source{Name: "a"} }, true},
		{"a zero source", func(s *api.Source) { *s = api.Source{} }, false},
		{"ten uses", func(s *api.Source) { s.Uses = uses(10) }, true},
		{"eleven uses", func(s *api.Source) { s.Uses = uses(11) }, false},
		{"a library that is used twice", func(s *api.Source) { s.Uses[1].Lib = "b" }, false},
		{"its own name", use(0, func(u *api.Use) { u.Lib = "a-1" }), true},
		{"neither All nor Names", use(0, func(u *api.Use) { u.All = false }), false},
		{"a prefix without All", use(1, func(u *api.Use) { u.All = false }), false},
		{"a prefix and Names", use(2, func(u *api.Use) { u.Prefix = "x" }), false},
		{"All and Names", use(2, func(u *api.Use) { u.All = true }), false},
		{"16 Names", use(2, func(u *api.Use) { u.Names = times(16, u.Names[0]) }), true},
		{"17 Names", use(2, func(u *api.Use) { u.Names = times(17, u.Names[0]) }), false},
		{"16 exports", func(s *api.Source) { s.Exports = keys(16) }, true},
		{"17 exports", func(s *api.Source) { s.Exports = keys(17) }, false},
		{"an export twice", func(s *api.Source) { s.Exports = names("a", "b", "a") }, false},
		{"300 definitions", func(s *api.Source) { s.Defs = times(300, s.Defs[4]) }, true},
		{"301 definitions", func(s *api.Source) { s.Defs = times(301, s.Defs[4]) }, false},
		{"two mains", func(s *api.Source) { s.Main = times(2, num(1)) }, false},
		{"a patch with all", func(s *api.Source) { s.Patch = true }, false},
		{"a patch", func(s *api.Source) { s.Patch, s.Uses, s.Exports, s.Main = true, nil, nil, nil }, true},
		{"a patch with uses", func(s *api.Source) { s.Patch, s.Exports, s.Main = true, nil, nil }, false},
		{"a patch with exports", func(s *api.Source) { s.Patch, s.Uses, s.Main = true, nil, nil }, false},
		{"a patch with a main", func(s *api.Source) { s.Patch, s.Uses, s.Exports = true, nil, nil }, false},
		{"a definition of no kind", func(s *api.Source) { s.Defs = append(s.Defs, api.Def{}) }, false},
		{"a definition of the kind 6", def(0, func(d *api.Def) { d.Kind = 6 }), false},
		{"a definition of the kind -1", def(0, func(d *api.Def) { d.Kind = -1 }), false},
		{"no superclasses", def(0, func(d *api.Def) { d.Class.Supers = nil }), false},
		{"8 superclasses", def(0, func(d *api.Def) { d.Class.Supers = times(8, "<a>") }), true},
		{"9 superclasses", def(0, func(d *api.Def) { d.Class.Supers = times(9, "<a>") }), false},
		{"16 slots", def(0, func(d *api.Def) { d.Class.Slots = slots(16) }), true},
		{"17 slots", def(0, func(d *api.Def) { d.Class.Slots = slots(17) }), false},
		{"a slot twice", def(0, func(d *api.Def) { d.Class.Slots = append(slots(3), slots(2)[1]) }), false},
		{"an Alloc 0", slot(1, func(s *api.Slot) { s.Alloc = 0 }), false},
		{"an Alloc 5", slot(1, func(s *api.Slot) { s.Alloc = 5 }), false},
		{"a slot without a key", slot(0, func(s *api.Slot) { s.Key = "" }), true},
		{"a key with a colon", slot(0, func(s *api.Slot) { s.Key = "k:" }), false},
		{"a qualified key", slot(0, func(s *api.Slot) { s.Key = "k@l" }), false},
		{"a reserved word as a key", slot(0, func(s *api.Slot) { s.Key = "slot" }), true},
		{"a key that is another's", slot(1, func(s *api.Slot) { s.Key = "p" }), true},
		{"a key that is long", slot(0, func(s *api.Slot) { s.Key = long[1:] }), true},
		{"a key that is too long", slot(0, func(s *api.Slot) { s.Key = long }), false},
		{"two Inits", slot(0, func(s *api.Slot) { s.Init = times(2, num(1)) }), false},
		{"a virtual slot with a key", slot(3, func(s *api.Slot) { s.Key = "k" }), false},
		{"a virtual slot with an Init", slot(3, func(s *api.Slot) { s.Init = times(1, num(1)) }), false},
		{"a class slot with both", slot(1, func(s *api.Slot) { s.Key, s.Init = "k", times(1, num(1)) }), true},
		{"a slot without a type", slot(1, func(s *api.Slot) { s.Type = api.Type{} }), false},
		{"an arity of 6", def(1, func(d *api.Def) { d.Generic.Arity = 6 }), true},
		{"an arity of 7", def(1, func(d *api.Def) { d.Generic.Arity = 7 }), false},
		{"an arity of 0", def(1, func(d *api.Def) { d.Generic.Arity = 0 }), true},
		{"an arity below 0", def(1, func(d *api.Def) { d.Generic.Arity = -1 }), false},
		{"6 parameters", def(2, func(d *api.Def) { d.Method.Params = fn("", num(1), keys(6)...).Params }), true},
		{"7 parameters", def(2, func(d *api.Def) { d.Method.Params = fn("", num(1), keys(7)...).Params }), false},
		{"a parameter twice", def(2, func(d *api.Def) { d.Method.Params = fn("", num(1), "x", "y", "x").Params }), false},
		{"a parameter x@1", def(2, func(d *api.Def) { d.Method.Params = fn("", num(1), "x", "x@1").Params }), true},
		{"a parameter let", def(2, func(d *api.Def) { d.Method.Params = fn("", num(1), "let").Params }), false},
		{"a parameter without a type", def(2, func(d *api.Def) { d.Method.Params[0].Type = api.Type{} }), false},
		{"a method without a result", def(2, func(d *api.Def) { d.Method.Result = api.Type{} }), false},
		{"a method without a body", def(2, func(d *api.Def) { d.Method.Body = api.Expr{} }), false},
		{"a domain without types", def(3, func(d *api.Def) { d.Domain.Types = nil }), true},
		{"a domain of 6", def(3, func(d *api.Def) { d.Domain.Types = times(6, object()) }), true},
		{"a domain of 7", def(3, func(d *api.Def) { d.Domain.Types = times(7, object()) }), false},
		{"a domain with a zero type", def(3, func(d *api.Def) { d.Domain.Types = times(1, api.Type{}) }), false},
		{"a constant without a body", def(4, func(d *api.Def) { d.Body = api.Expr{} }), false},
	}
	plain := map[string]bool{"x": true, "<x>": true, "x-y": true, long: true, "": false, "x@y": false, "let": false, "x:": false, "1": false, long + "x": false, "(": false, "x y": false, "%|": false}
	usable := map[string]bool{"x": true, "<x>": true, "x@y": true, "let@1": true, "": false, "let": false, "x:": false, "1": false, long + "x": false, "%|": false}
	library := map[string]bool{"x": true, "x1": true, "a-1b": true, long: true, "": false, "<x>": false, "x@y": false, "let": false, "type-union": false, "x-": false, "1": false, "1x": false, "x_y": false, "x?": false, "x*y": false, "X": false, long + "x": false, "x.y": false}
	for _, place := range []struct {
		what  string
		names map[string]bool
		set   func(s *api.Source, name string)
	}{
		{"the name", library, func(s *api.Source, name string) { s.Name = name }},
		{"a library that is used", library, func(s *api.Source, name string) { s.Uses[1].Lib = name }},
		{"a prefix", plain, func(s *api.Source, name string) { s.Uses[1].Prefix = name }},
		{"a From", plain, func(s *api.Source, name string) { s.Uses[2].Names[1].From = name }},
		{"a To", plain, func(s *api.Source, name string) { s.Uses[2].Names[1].To = name }},
		{"an export", plain, func(s *api.Source, name string) { s.Exports[0] = name }},
		{"a class", plain, func(s *api.Source, name string) { s.Defs[0].Class.Name = name }},
		{"a superclass", usable, func(s *api.Source, name string) { s.Defs[0].Class.Supers[1] = name }},
		{"a slot", plain, func(s *api.Source, name string) { s.Defs[0].Class.Slots[1].Name = name }},
		{"a generic function", plain, func(s *api.Source, name string) { s.Defs[1].Generic.Name = name }},
		{"the generic function of a method", usable, func(s *api.Source, name string) { s.Defs[2].Method.Generic = name }},
		{"the generic function of a domain", usable, func(s *api.Source, name string) { s.Defs[3].Domain.Generic = name }},
		{"a constant", plain, func(s *api.Source, name string) { s.Defs[4].Name = name }},
		{"a parameter", usable, func(s *api.Source, name string) { s.Defs[2].Method.Params[0].Name = name }},
		{"a type", usable, func(s *api.Source, name string) { s.Defs[0].Class.Slots[1].Type.Name = name }},
	} {
		for name, is := range place.names {
			if place.what == "a prefix" && name == "" {
				is = true
			}
			changes = append(changes, change{fmt.Sprintf("%s %q", place.what, name), func(s *api.Source) { place.set(s, name) }, is})
		}
	}
	for _, x := range changes {
		s := whole(t)
		x.change(&s)
		want := api.OK
		if !x.want {
			want = api.ErrForm
		}
		if e := syntax.Check(s); e != want {
			t.Errorf("%s: Check = %v; expected %v", x.what, e, want)
		}
		text, e := syntax.Print(s)
		if e != want || (text != "") != (want == api.OK) {
			t.Errorf("%s: Print = %q, %v; expected %v", x.what, text, e, want)
		}
	}
}

// TestP4_3OtherFields: a definition has the fields of its kind alone.
func TestP4_3OtherFields(t *testing.T) {
	fields := []struct {
		kind int
		set  func(*api.Def)
	}{
		{api.DfClass, func(d *api.Def) { d.Class.Name = "x" }},
		{api.DfClass, func(d *api.Def) { d.Class.Supers = []string{"x"} }},
		{api.DfClass, func(d *api.Def) { d.Class.Slots = []api.Slot{{Name: "x", Type: object(), Alloc: api.SlInst}} }},
		{api.DfClass, func(d *api.Def) { d.Class.Abstract = true }},
		{api.DfClass, func(d *api.Def) { d.Class.Sealed = true }},
		{api.DfGeneric, func(d *api.Def) { d.Generic.Name = "x" }},
		{api.DfGeneric, func(d *api.Def) { d.Generic.Arity = 1 }},
		{api.DfGeneric, func(d *api.Def) { d.Generic.Sealed = true }},
		{api.DfMethod, func(d *api.Def) { d.Method.Generic = "x" }},
		{api.DfMethod, func(d *api.Def) { d.Method.Params = []api.Param{{Name: "x", Type: object()}} }},
		{api.DfMethod, func(d *api.Def) { d.Method.Result = object() }},
		{api.DfMethod, func(d *api.Def) { d.Method.Body = num(1) }},
		{api.DfDomain, func(d *api.Def) { d.Domain.Generic = "x" }},
		{api.DfDomain, func(d *api.Def) { d.Domain.Types = []api.Type{object()} }},
		{api.DfConst, func(d *api.Def) { d.Name = "x" }},
		{api.DfConst, func(d *api.Def) { d.Body = num(1) }},
	}
	for i, d := range whole(t).Defs {
		for j, f := range fields {
			s := whole(t)
			f.set(&s.Defs[i])
			want := api.ErrForm
			if f.kind == d.Kind {
				want = api.OK
			}
			if e := syntax.Check(s); e != want {
				t.Errorf("a definition of the kind %d with the field %d: Check = %v; expected %v", d.Kind, j, e, want)
			}
		}
	}
}

// TestP4_3SourceLimits: all expressions and types of a source count together, whatever the kinds are.
func TestP4_3SourceLimits(t *testing.T) {
	many := func(n int) api.Expr { return seq(times(n-1, num(1))...) }
	full := func(n int) api.Source {
		s := whole(t) // 11 expressions and types
		s.Main = []api.Expr{many(n - 10)}
		return s
	}
	if syntax.Check(full(api.MaxNodes)) != api.OK || syntax.Check(full(api.MaxNodes+1)) != api.ErrLong {
		t.Errorf("Check of 3000 and 3001 = %v, %v", syntax.Check(full(api.MaxNodes)), syntax.Check(full(api.MaxNodes+1)))
	}
	more := []func(*api.Def, api.Expr){
		func(d *api.Def, x api.Expr) { d.Body = x },
		func(d *api.Def, x api.Expr) { d.Method.Body = x },
		func(d *api.Def, x api.Expr) {
			d.Method.Result = api.Type{Kind: api.TyClass, Args: times(len(x.Args), object())}
		},
		func(d *api.Def, x api.Expr) {
			d.Method.Params = times(1, api.Param{Type: api.Type{Args: times(len(x.Args), object())}})
		},
		func(d *api.Def, x api.Expr) { d.Domain.Types = times(1+len(x.Args), api.Type{}) },
		func(d *api.Def, x api.Expr) { d.Class.Slots = times(1, api.Slot{Init: times(1, x)}) },
		func(d *api.Def, x api.Expr) {
			d.Class.Slots = times(1, api.Slot{Type: api.Type{Kind: 9, Args: times(len(x.Args), object())}})
		},
	}
	for kind := range 7 {
		for i, set := range more {
			for n, want := range map[int]api.Errno{api.MaxNodes: api.ErrForm, api.MaxNodes + 1: api.ErrLong} {
				s := api.Source{Defs: []api.Def{{Kind: kind}}}
				set(&s.Defs[0], many(n))
				if e := syntax.Check(s); e != want {
					t.Errorf("%d expressions and types in the field %d of a definition of the kind %d: Check = %v; expected %v", n, i, kind, e, want)
				}
			}
		}
	}
	for what, s := range map[string]api.Source{
		"main":     {Main: []api.Expr{deep(101)}},
		"constant": {Defs: []api.Def{{Kind: api.DfClass, Body: deep(101)}}},
		"method":   {Defs: []api.Def{{Method: api.MethodDef{Body: deep(101)}}}},
		"result":   {Defs: []api.Def{{Method: api.MethodDef{Result: unions(100, object())}}}},
		"domain":   {Defs: []api.Def{{Domain: api.DomainDef{Types: []api.Type{unions(100, object())}}}}},
		"slot":     {Defs: []api.Def{{Class: api.ClassDef{Slots: []api.Slot{{Type: unions(100, object())}}}}}},
		"init":     {Defs: []api.Def{{Class: api.ClassDef{Slots: []api.Slot{{Init: []api.Expr{deep(101)}}}}}}},
	} {
		if e := syntax.Check(s); e != api.ErrDeep {
			t.Errorf("%s: Check of what is too deep = %v; expected ErrDeep", what, e)
		}
		s.Defs = append(slices.Clone(s.Defs), api.Def{Body: many(api.MaxNodes)})
		if e := syntax.Check(s); e != api.ErrLong {
			t.Errorf("%s: Check of what is too deep, and too long = %v; expected ErrLong", what, e)
		}
	}
}
