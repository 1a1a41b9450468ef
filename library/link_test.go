package library_test

import (
	"fmt"
	"slices"
	"strings"
	"testing"

	"skerry/api"
	"skerry/library"
)

// units reads units that are written like "b:a,c a c* a!": libraries with those that they use, a library with a main expression, a patch.
func units(text string) []api.Unit {
	var l []api.Unit
	for _, x := range strings.Fields(text) {
		x, main := strings.CutSuffix(x, "*")
		name, list, _ := strings.Cut(x, ":")
		var uses []string
		if list != "" {
			uses = strings.Split(list, ",")
		}
		u := unit(name, uses...)
		if main {
			u.Main = []api.Expr{{Kind: api.ExNum, Num: len(l) + 1}}
		}
		u.Library.Defs = []api.Def{{Kind: api.DfConst, Name: fmt.Sprint("k", len(l))}}
		l = append(l, u)
	}
	return l
}

// errno returns the error that has a short name in the tables of this file.
func errno(s string) api.Errno {
	return map[string]api.Errno{
		"long": api.ErrLong, "none": api.ErrNone, "interface": api.ErrInterface, "twin": api.ErrTwin,
		"stale": api.ErrStale, "loop": api.ErrLoop, "main": api.ErrMain, "missing": api.ErrMissing,
	}[s]
}

// is reports whether a result, or an error, is what is expected.
func is[T any](want string, got []T, e api.Errno) bool {
	if wrong := errno(want); wrong != api.OK {
		return e == wrong && got == nil
	}
	return e == api.OK && strings.Trim(fmt.Sprint(got), "[]") == want
}

func TestP6_1Order(t *testing.T) {
	for _, x := range []struct{ units, want string }{
		{"", ""},
		{"a", "0"},
		{"a b c", "0 1 2"},
		{"b:a a", "1 0"},
		{"a b:a", "0 1"},
		{"c:b b:a a", "2 1 0"},
		{"c:a,b b:a a", "2 1 0"},
		{"c:a b:a a", "2 0 1"},
		{"c:b a b d", "1 2 0 3"}, // as soon as it can be, it is the first one again
		{"c:a a b d", "1 0 2 3"},
		{"d:c a b c:a,b", "1 2 3 0"},
		{"d:a c:d a b:a,c", "2 0 1 3"},
		{"a! b:a a a! b!", "2 1"},
		{"a! a", "1"},
		{"b:a,a,a a", "1 0"},
		{"a:a", "loop"},
		{"a:b b:a", "loop"},
		{"c a:b b:a", "loop"},
		{"a:b b:c c:d d:b", "loop"},
		{"a:c b:c c", "2 0 1"},
		{"a:z", "missing"},
		{"b:a", "missing"},
		{"a b:a,c", "missing"},
		{"a!", "missing"},
		{"b a!", "missing"},
		{"a b:a c!", "missing"},
		{"b:a a!", "missing"},
		{"a:b b:a c:z", "missing"},
		{"a:a z!", "missing"},
		{"a a", "twin"},
		{"a:z b a", "twin"},
		{"a:a b b a!", "twin"},
		{"a! a! a", "2"},
	} {
		l := units(x.units)
		got, e := library.Order(l)
		if !is(x.want, got, e) {
			t.Errorf("Order of %s = %v, %v; expected %s", x.units, got, e, x.want)
		}
		if p, e := library.Link(l); errno(x.want) != api.OK && (e != errno(x.want) || !isZero(p)) {
			t.Errorf("Link of %s = %v; expected %s", x.units, e, x.want)
		}
	}
}

// TestP6_1Units: the errors that all functions of units have ahead of all else.
func TestP6_1Units(t *testing.T) {
	many := func(n int) []api.Unit {
		var l []api.Unit
		for i := range n {
			l = append(l, unit(fmt.Sprint("l", i)))
		}
		l[n-1].Main = []api.Expr{{Kind: api.ExNum}}
		return l
	}
	patches := slices.Repeat([]api.Unit{unit("l0!")}, api.MaxPatches)
	wrong := unit("w")
	wrong.Library.Name = ""
	for _, x := range []struct {
		what string
		l    []api.Unit
		want api.Errno
	}{
		{"as many libraries as may be", many(api.MaxUnits), api.OK},
		{"as many libraries and patches as may be", append(many(api.MaxLibs), patches...), api.OK},
		{"as many patches as may be", append(slices.Repeat(patches[:1], api.MaxUnits-1), many(1)...), api.OK},
		{"a library more", many(api.MaxUnits + 1), api.ErrLong},
		{"a patch more", append(many(api.MaxLibs+1), patches...), api.ErrLong},
		{"a unit more, and not valid", append(many(api.MaxUnits), wrong), api.ErrLong},
		{"a unit that is not valid", append(many(3), wrong), api.ErrInterface},
		{"a zero unit", append(many(3), api.Unit{}), api.ErrInterface},
		{"a unit that is not valid behind twins", append(append(many(3), many(1)...), wrong), api.ErrInterface},
		{"a unit that is not valid ahead of twins", append([]api.Unit{wrong, wrong}, many(3)...), api.ErrInterface},
		{"twins", append(many(3), many(1)...), api.ErrTwin},
		{"twins that use what is missing", []api.Unit{unit("l0", "z"), unit("l0", "l0")}, api.ErrTwin},
	} {
		checkUnits(t, x.what, x.l, x.want)
	}
	changedUnits(func(what string, u api.Unit, right bool) {
		want := api.OK
		if !right {
			want = api.ErrInterface
		}
		l := []api.Unit{unit("l0"), u}
		if got, e := library.Stale(l); e != want || e != api.OK && got != nil {
			t.Errorf("%s: Stale = %v, %v; expected %v", what, got, e, want)
		}
		if want != api.OK {
			checkUnits(t, what, l, want)
		}
	})
}

// checkUnits checks that all functions of units have an error. (The first library is called l0.)
func checkUnits(t *testing.T, what string, l []api.Unit, want api.Errno) {
	t.Helper()
	order, e1 := library.Order(l)
	stale, e2 := library.Stale(l)
	p, e3 := library.Link(l)
	depends, e4 := library.Depends(l, "l0")
	_, e5 := library.Depends(l, "none")
	if want == api.OK {
		if e1 != api.OK || e2 != api.OK || e3 != api.OK || e4 != api.OK || e5 != api.ErrNone || len(order) != len(p.Libs) || len(order)+len(p.Patches) != len(l) {
			t.Errorf("%s: the errors are %v, %v, %v, %v, %v", what, e1, e2, e3, e4, e5)
		}
		return
	}
	if e1 != want || e2 != want || e3 != want || e4 != want || e5 != want {
		t.Errorf("%s: the errors are %v, %v, %v, %v, %v; expected %v", what, e1, e2, e3, e4, e5, want)
	}
	if order != nil || stale != nil || !isZero(p) || depends != nil {
		t.Errorf("%s: there are results: %v, %v, %+v, %v", what, order, stale, p, depends)
	}
}

func TestP6_1Stale(t *testing.T) {
	other := bare("a")
	other.Macros = nil
	moved := bare("a")
	moved.Macros = marked(moved.Macros)
	for _, x := range []struct {
		what, units string
		change      func(l []api.Unit)
		want        string
	}{
		{"none", "", nil, ""},
		{"libraries and patches", "c:a,b a b:a a! c!", nil, ""},
		{"another interface", "c:a,b a b:a a! c!", func(l []api.Unit) { l[1].Interface = other }, "0 2 3"},
		{"an interface with other places and marks", "c:a,b a b:a a! c!", func(l []api.Unit) { l[1].Interface = moved }, ""},
		{"another interface in Against", "c:a,b a b:a a! c!", func(l []api.Unit) { l[2].Against[0] = other }, "2"},
		{"another interface in Against of a patch", "c:a,b a b:a a! c!", func(l []api.Unit) { l[3].Against[0] = other }, "3"},
		{"other places and marks in Against", "c:a,b a b:a a! c!", func(l []api.Unit) { l[3].Against[0] = moved }, ""},
		{"another interface everywhere", "b:a a", func(l []api.Unit) { l[0].Against[0], l[1].Interface = other, other }, ""},
		{"no library", "c:a,b b a! c!", nil, "0 2"},
		{"no library, and no use", "b:a", func(l []api.Unit) { l[0].Library.Uses = nil }, "0"},
		{"an Against that is not used", "b:a a c", func(l []api.Unit) { l[0].Against = append(l[0].Against, bare("c")) }, ""},
		{"an Against that is not used, another interface", "b a", func(l []api.Unit) { l[0].Against = []api.Interface{other} }, "0"},
		{"an Against that is not used, no library", "b", func(l []api.Unit) { l[0].Against = []api.Interface{other} }, "0"},
		{"a use without Against", "b:a a", func(l []api.Unit) { l[0].Against = nil }, "0"},
		{"another use without Against", "b:a a c", func(l []api.Unit) { l[0].Library.Uses = []string{"a", "c"} }, "0"},
		{"a use of nothing without Against", "b a", func(l []api.Unit) { l[0].Library.Uses = []string{"z"} }, "0"},
		{"a patch without Against", "a a!", func(l []api.Unit) { l[1].Against = nil }, "1"},
		{"a patch with another Against", "a b a!", func(l []api.Unit) { l[2].Against = []api.Interface{bare("b")} }, "2"},
		{"a patch with one more Against", "a b a!", func(l []api.Unit) { l[2].Against = append(l[2].Against, bare("b")) }, ""},
		{"a patch with one more Against, another interface", "b a b!", func(l []api.Unit) { l[2].Against = append(l[2].Against, other) }, "2"},
		{"a library that patches alone have", "b:a a!", nil, "0 1"},
		{"itself", "a:a", nil, ""},
		{"itself, another interface", "a:a", func(l []api.Unit) { l[0].Interface = other }, "0"},
		{"a loop", "a:b b:a", nil, ""},
		{"twins", "b:z a a", nil, "twin"},
	} {
		l := units(x.units)
		if x.change != nil {
			x.change(l)
		}
		got, e := library.Stale(l)
		if !is(x.want, got, e) {
			t.Errorf("%s: Stale of %s = %v, %v; expected %s", x.what, x.units, got, e, x.want)
		}
	}
}

func TestP6_1Link(t *testing.T) {
	for _, x := range []struct {
		units, libs, patches string
		main                 int
	}{
		{"a*", "k0", "", 1},
		{"b:a a*", "k1 k0", "", 2},
		{"b:a* a", "k1 k0", "", 1},
		{"a! c b:a a* b! a! d", "k1 k3 k2 k6", "k0 k4 k5", 4},
	} {
		p, e := library.Link(units(x.units))
		defs := func(l []api.Library) string {
			var out []string
			for _, lib := range l {
				out = append(out, lib.Defs[0].Name)
			}
			return strings.Join(out, " ")
		}
		if e != api.OK || defs(p.Libs) != x.libs || defs(p.Patches) != x.patches || !exactly(p.Main, api.Expr{Kind: api.ExNum, Num: x.main}) {
			t.Errorf("Link of %s = %+v, %v", x.units, p, e)
		}
	}
	for _, x := range []struct {
		units  string
		change func(l []api.Unit)
		want   api.Errno
	}{
		{"", nil, api.ErrMain},
		{"a", nil, api.ErrMain},
		{"a b c", nil, api.ErrMain},
		{"a* b*", nil, api.ErrMain},
		{"a* b c* a!", nil, api.ErrMain},
		{"b:a a", func(l []api.Unit) { l[0].Against = nil }, api.ErrStale},
		{"b:a* a*", func(l []api.Unit) { l[0].Against[0].Macros = nil }, api.ErrStale},
		{"b:a* a", func(l []api.Unit) { l[1].Interface.Macros = nil }, api.ErrStale},
		{"a* a!", func(l []api.Unit) { l[1].Against = nil }, api.ErrStale},
		{"b:a* a:b", func(l []api.Unit) { l[0].Against = nil }, api.ErrLoop},
		{"b:a*", func(l []api.Unit) { l[0].Against = nil }, api.ErrMissing},
	} {
		l := units(x.units)
		if x.change != nil {
			x.change(l)
		}
		if p, e := library.Link(l); e != x.want || !isZero(p) {
			t.Errorf("Link of %s = %+v, %v; expected %v", x.units, p, e, x.want)
		}
	}
}

func TestP6_1Depends(t *testing.T) {
	for _, x := range []struct{ units, name, want string }{
		{"a", "a", ""},
		{"a b", "a", ""},
		{"b:a a", "b", "a"},
		{"b:a a", "a", ""},
		{"d:c c:b,a b:a a", "d", "a b c"},
		{"d:c c:b,a b:a a", "c", "a b"},
		{"c:zz,z,a,z1,z-a zz z z1 z-a a", "c", "a z z-a z1 zz"},
		{"a:a", "a", "a"},
		{"a:b b:a c:a d", "a", "a b"},
		{"a:b b:a c:a d", "c", "a b"},
		{"a:b b:c c:b", "a", "b c"},
		{"a b:a b!", "b", "a"},
		{"", "a", "none"},
		{"", "", "none"},
		{"a", "", "none"},
		{"a b:a", "c", "none"},
		{"a!", "a", "none"},
		{"a:b", "b", "none"},
		{"a:b", "a", "missing"},
		{"a b c:d", "a", "missing"},
		{"a b!", "a", "missing"},
		{"a:b a", "z", "twin"},
	} {
		got, e := library.Depends(units(x.units), x.name)
		if !is(x.want, got, e) {
			t.Errorf("Depends of %s and %s = %v, %v; expected %s", x.units, x.name, got, e, x.want)
		}
	}
}

// TestP6_1LinkLarge: linked are units whose definitions are no ones of any source, however large they are.
func TestP6_1LinkLarge(t *testing.T) {
	deep := api.Expr{Kind: api.ExNum, Num: 7}
	wide := api.Type{Kind: api.TyClass, Name: "<c>"}
	for range 30000 {
		deep = api.Expr{Kind: api.ExSeq, Args: []api.Expr{deep}}
		wide = api.Type{Kind: api.TyUnion, Args: []api.Type{wide}}
	}
	u := unit("a")
	u.Main = []api.Expr{deep}
	u.Library.Defs = make([]api.Def, 1000)
	u.Library.Defs[0].Method.Params = []api.Param{{Type: wide}}
	u.Library.Defs[1].Body.Args = make([]api.Expr, 100000)
	u.Library.Uses = slices.Repeat([]string{"b"}, 5000)
	u.Against = []api.Interface{bare("b")}
	p, e := library.Link([]api.Unit{u, unit("b")})
	if e != api.OK {
		t.Fatalf("Link = %v", e)
	}
	x, y := p.Main, p.Libs[1].Defs[0].Method.Params[0].Type
	for len(x.Args) > 0 && len(y.Args) > 0 {
		x, y = x.Args[0], y.Args[0]
	}
	if x.Num != 7 || y.Name != "<c>" || len(p.Libs[1].Defs) != 1000 || len(p.Libs[1].Defs[1].Body.Args) != 100000 || len(p.Libs[1].Uses) != 5000 {
		t.Error("Link does not return all of a large unit")
	}
}

// TestP6_1LinkEndless: units with expressions or types that contain themselves are beyond what the document speaks of, but Link ends for them, too.
func TestP6_1LinkEndless(t *testing.T) {
	for _, n := range []int{1, 2, 16} {
		xs, ts := make([]api.Expr, n), make([]api.Type, n)
		for i := range n {
			xs[i], ts[i] = api.Expr{Kind: api.ExSeq, Args: xs}, api.Type{Kind: api.TyUnion, Args: ts}
		}
		x := xs[0]
		for i, d := range []api.Def{
			{Body: x},
			{Method: api.MethodDef{Body: x}},
			{Method: api.MethodDef{Result: ts[0]}},
			{Method: api.MethodDef{Params: []api.Param{{Type: ts[0]}}}},
			{Domain: api.DomainDef{Types: ts}},
			{Class: api.ClassDef{Slots: []api.Slot{{Type: ts[0]}}}},
			{Class: api.ClassDef{Slots: []api.Slot{{Init: xs}}}},
			{Body: api.Expr{Type: ts[0]}},
			{Body: api.Expr{Params: []api.Param{{}, {Type: ts[0]}}}},
		} {
			l := []api.Unit{unit("a"), unit("a!")}
			l[0].Main = []api.Expr{{Kind: api.ExNum}}
			l[i%2].Library.Defs = []api.Def{{}, d}
			if p, e := library.Link(l); e != api.ErrLarge || !isZero(p) {
				t.Errorf("Link of the definition %d = %v", i, e)
			}
			if order, e := library.Order(l); e != api.OK || len(order) != 1 {
				t.Errorf("Order with the definition %d = %v, %v", i, order, e)
			}
		}
		l := []api.Unit{unit("a")}
		l[0].Main = xs[:1]
		if p, e := library.Link(l); e != api.ErrLarge || !isZero(p) {
			t.Errorf("Link of an endless main expression = %v", e)
		}
	}
}

// TestP6_1LinkMany: Link ends for a unit with an expression that has itself little memory, but more copies of parts than a result has room for.
func TestP6_1LinkMany(t *testing.T) {
	var x api.Expr
	for range 60 {
		x = api.Expr{Kind: api.ExSeq, Args: []api.Expr{x, x}}
	}
	l := []api.Unit{unit("a")}
	l[0].Main = []api.Expr{x}
	if p, e := library.Link(l); e != api.ErrLarge || !isZero(p) {
		t.Errorf("Link of very many expressions = %v", e)
	}
}
