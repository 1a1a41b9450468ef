package library_test

import (
	"fmt"
	"slices"
	"strings"
	"testing"

	"skerry/api"
	"skerry/library"
)

const (
	textA = "library a ; export size ; define generic size ( o ) ; define macro inc { inc ( ?e:expression ) } => { ?e + 1 } end ;"
	textB = "library b ; use a ; define method size ( o :: <integer> ) inc ( o ) end ; size ( 3 )"
	textM = `library m; export <p>, f, k;
define class <p> (<object>) slot s; end;
define generic f (x, y);
define constant k = 1;
define constant hidden = 2;
define macro unless { unless (?c:expression) ?b:body end } => { if (?c) #f else ?b end }; { unless ?b:body end } => { ?b } end;
define macro inc { inc(?e:expression) } => { (?e + 1) }; { inc(?e:expression, ?f:name [?t:token]) } => { (?e + ?f) } end;`
)

// valid returns an interface that has something of everything.
func valid(t *testing.T) api.Interface {
	t.Helper()
	i := built(t, textM).Interface
	if macroNames(i.Macros) != "unless* inc" || len(i.Face.Names) != 3 || len(i.Whole.Names) != 6 {
		t.Fatalf("the interface of m is %+v", i)
	}
	return i
}

func token(text string) api.Frag { return api.Frag{Tok: api.Token{Kind: api.TkName, Text: text}} }

// plain returns a function macro with a template.
func plain(name string, template ...api.Frag) api.Macro {
	return api.Macro{Name: name, Rules: []api.MacroRule{{Template: template}}}
}

// tower returns n groups within each other.
func tower(n int) []api.Frag {
	var l []api.Frag
	for range n {
		l = []api.Frag{{Tok: api.Token{Kind: api.TkSign, Text: "("}, Open: "(", Kids: l}}
	}
	return l
}

// names returns n names of a face.
func names(n int) []api.Export {
	var l []api.Export
	for i := range n {
		l = append(l, api.Export{Name: fmt.Sprint("n", i), Full: fmt.Sprintf("n%d@m", i), Kind: api.DfConst})
	}
	return l
}

func macros(n int) []api.Macro {
	var l []api.Macro
	for i := range n {
		l = append(l, plain(fmt.Sprint("m", i)))
	}
	return l
}

// changedInterfaces calls f with changes of a valid interface, and whether it is valid after each one. (All of those that are valid are not the same as the first one, and differ from each other.)
func changedInterfaces(t *testing.T, f func(what string, i api.Interface, right bool)) {
	for _, x := range []struct {
		what   string
		change func(i *api.Interface)
		right  bool
	}{
		{"another Lib", func(i *api.Interface) { i.Face.Lib, i.Whole.Lib = "n", "n" }, true},
		{"a Lib that is no library name", func(i *api.Interface) { i.Face.Lib, i.Whole.Lib = "<m>", "<m>" }, true},
		{"a Lib that is a reserved word", func(i *api.Interface) { i.Face.Lib, i.Whole.Lib = "use", "use" }, true},
		{"no Lib", func(i *api.Interface) { i.Face.Lib, i.Whole.Lib = "", "" }, false},
		{"a Lib that is no plain name", func(i *api.Interface) { i.Face.Lib, i.Whole.Lib = "a@b", "a@b" }, false},
		{"another Lib of Face", func(i *api.Interface) { i.Face.Lib = "n" }, false},
		{"another Lib of Whole", func(i *api.Interface) { i.Whole.Lib = "n" }, false},
		{"no name of Face", func(i *api.Interface) { i.Face.Names = nil }, true},
		{"no name of Whole", func(i *api.Interface) { i.Whole.Names = nil }, true},
		{"a name less of Face", func(i *api.Interface) { i.Face.Names = i.Face.Names[1:] }, true},
		{"a name less of Whole", func(i *api.Interface) { i.Whole.Names = i.Whole.Names[:5] }, true},
		{"another order of Face", func(i *api.Interface) { slices.Reverse(i.Face.Names) }, true},
		{"another order of Whole", func(i *api.Interface) { slices.Reverse(i.Whole.Names) }, true},
		{"another Name of Face", func(i *api.Interface) { i.Face.Names[0].Name = "x" }, true},
		{"another Full of Face", func(i *api.Interface) { i.Face.Names[0].Full = "x@y" }, true},
		{"another Kind of Face", func(i *api.Interface) { i.Face.Names[0].Kind = api.DfConst }, true},
		{"another Arity of Face", func(i *api.Interface) { i.Face.Names[1].Arity = 3 }, true},
		{"another Arity of Whole", func(i *api.Interface) { i.Whole.Names[3].Arity = 3 }, true},
		{"a name twice in Face", func(i *api.Interface) { i.Face.Names[0].Name = "f" }, false},
		{"a name twice in Whole", func(i *api.Interface) { i.Whole.Names[0].Name = "f" }, false},
		{"a Full that is plain in Face", func(i *api.Interface) { i.Face.Names[0].Full = "f" }, false},
		{"a Full that is plain in Whole", func(i *api.Interface) { i.Whole.Names[0].Full = "f" }, false},
		{"an Arity of a class", func(i *api.Interface) { i.Face.Names[0].Arity = 1 }, false},
		{"a Kind that is none", func(i *api.Interface) { i.Whole.Names[0].Kind = api.DfMethod }, false},
		{"as many names as may be in Face", func(i *api.Interface) { i.Face.Names = names(api.MaxDefs) }, true},
		{"as many names as may be in Whole", func(i *api.Interface) { i.Whole.Names = names(api.MaxDefs) }, true},
		{"too many names in Face", func(i *api.Interface) { i.Face.Names = names(api.MaxDefs + 1) }, false},
		{"too many names in Whole", func(i *api.Interface) { i.Whole.Names = names(api.MaxDefs + 1) }, false},
		{"no macros", func(i *api.Interface) { i.Macros = nil }, true},
		{"a macro less", func(i *api.Interface) { i.Macros = i.Macros[:1] }, true},
		{"a macro more", func(i *api.Interface) { i.Macros = append(i.Macros, plain("x")) }, true},
		{"another order of macros", func(i *api.Interface) { slices.Reverse(i.Macros) }, true},
		{"another name of a macro", func(i *api.Interface) { i.Macros[1].Name = "x" }, true},
		{"another sort of a macro", func(i *api.Interface) { i.Macros[1].Statement = true }, true},
		{"a rule less", func(i *api.Interface) { i.Macros[0].Rules = i.Macros[0].Rules[:1] }, true},
		{"another order of rules", func(i *api.Interface) { slices.Reverse(i.Macros[0].Rules) }, true},
		{"another pattern", func(i *api.Interface) { i.Macros[1].Rules[1].Pattern[1].Tok.Text = ";" }, true},
		{"another pattern within a group", func(i *api.Interface) {
			i.Macros[1].Rules[1].Pattern[3].Kids = append(i.Macros[1].Rules[1].Pattern[3].Kids, token("x"))
		}, true},
		{"another template", func(i *api.Interface) { i.Macros[0].Rules[0].Template = nil }, true},
		{"another template within a group", func(i *api.Interface) { i.Macros[1].Rules[1].Template[0].Kids[1].Tok.Text = "-" }, true},
		{"as many macros as may be", func(i *api.Interface) { i.Macros = macros(api.MaxMacros) }, true},
		{"too many macros", func(i *api.Interface) { i.Macros = macros(api.MaxMacros + 1) }, false},
		{"a macro twice", func(i *api.Interface) { i.Macros[1].Name = i.Macros[0].Name }, false},
		{"a macro without rules", func(i *api.Interface) { i.Macros[1].Rules = nil }, false},
		{"a macro without a name", func(i *api.Interface) { i.Macros[0].Name = "" }, false},
		{"a macro named by an opening word", func(i *api.Interface) { i.Macros[0].Name = "begin" }, false},
		{"a pattern that is none", func(i *api.Interface) { i.Macros[1].Rules[1].Pattern[1].Tok.Text = "x" }, false},
		{"a template with another variable", func(i *api.Interface) { i.Macros[1].Rules[0].Pattern = nil }, false},
		{"as deep as may be", func(i *api.Interface) {
			i.Macros[0].Rules[0].Pattern, i.Macros[0].Rules[0].Template = tower(100), tower(99)
		}, true},
		{"too deep a template", func(i *api.Interface) { i.Macros[0].Rules[0].Template = tower(101) }, false},
		{"a pattern that contains itself", func(i *api.Interface) {
			l := tower(1)
			l[0].Kids = l
			i.Macros[0].Rules[0].Pattern = l
		}, false},
		{"too long a template", func(i *api.Interface) {
			i.Macros[0].Rules[0].Template = slices.Repeat([]api.Frag{token("x")}, api.MaxTokens+1)
		}, false},
	} {
		i := valid(t)
		x.change(&i)
		f(x.what, i, x.right)
	}
}

func TestP6_1Check(t *testing.T) {
	if e := library.Check(valid(t)); e != api.OK {
		t.Errorf("Check = %v", e)
	}
	if e := library.Check(api.Interface{}); e != api.ErrInterface {
		t.Errorf("Check of a zero interface = %v", e)
	}
	changedInterfaces(t, func(what string, i api.Interface, right bool) {
		if e := library.Check(i); (e == api.OK) != right || !right && e != api.ErrInterface {
			t.Errorf("%s: Check = %v", what, e)
		}
	})
}

// marked changes the places and marks of all tokens of macros.
func marked(l []api.Macro) []api.Macro {
	l = clone(l)
	var mark func(l []api.Frag)
	mark = func(l []api.Frag) {
		for i := range l {
			l[i].Tok.At, l[i].Tok.Mark = l[i].Tok.At+5, 3
			mark(l[i].Kids)
		}
	}
	for _, m := range l {
		for _, r := range m.Rules {
			mark(r.Pattern)
			mark(r.Template)
		}
	}
	return l
}

func TestP6_1Same(t *testing.T) {
	i := valid(t)
	same := func(a, b api.Interface) bool {
		one, other := library.Same(a, b), library.Same(b, a)
		if one != other {
			t.Errorf("Same of %+v and %+v is not the same as the other way round", a, b)
		}
		return one
	}
	moved := clone(i)
	moved.Macros = marked(i.Macros)
	if !same(i, i) || !same(i, clone(i)) || !same(i, moved) {
		t.Error("an interface is not the same as itself")
	}
	empty := api.Interface{Face: api.Face{Lib: "m"}, Whole: api.Face{Lib: "m"}}
	if !same(empty, api.Interface{Face: api.Face{Lib: "m", Names: []api.Export{}}, Whole: api.Face{Lib: "m", Names: []api.Export{}}, Macros: []api.Macro{}}) {
		t.Error("nil lists and empty ones are not the same")
	}
	var all []api.Interface
	changedInterfaces(t, func(what string, x api.Interface, right bool) {
		if same(i, x) {
			t.Errorf("%s: the interfaces are the same", what)
		}
		if same(x, x) != right {
			t.Errorf("%s: the interface is the same as itself: %v", what, !right)
		}
		for _, y := range all {
			if same(x, y) {
				t.Errorf("%s: the interface is the same as one that was changed in another way", what)
			}
		}
		all = append(all, x)
	})
	if same(api.Interface{}, api.Interface{}) {
		t.Error("zero interfaces are the same")
	}
}

// TestP6_1SameKids: Kids of tokens, which chapter 3 does not speak of, do not keep Same from ending.
func TestP6_1SameKids(t *testing.T) {
	a := valid(t)
	l := []api.Frag{token("x")}
	l[0].Kids = l
	a.Macros[0].Rules[0].Template = l
	b := clone(valid(t))
	if library.Same(a, b) || library.Check(a) == api.OK && !library.Same(a, a) {
		t.Error("Same of tokens with Kids is not right")
	}
	if m, e := library.Uses("use m ;", []api.Interface{a}); e == api.OK && len(m) != 2 {
		t.Errorf("Uses of tokens with Kids = %d macros", len(m))
	}
}

// unit returns a library, or (with a ! at the end of its name) a patch, that uses others and was compiled against them.
func unit(name string, uses ...string) api.Unit {
	name, patch := strings.CutSuffix(name, "!")
	u := api.Unit{Patch: patch, Library: api.Library{Name: name, Uses: uses}}
	needs := uses
	if patch {
		needs = []string{name}
	} else {
		u.Interface = bare(name)
	}
	for i, lib := range needs {
		if !slices.Contains(needs[:i], lib) {
			u.Against = append(u.Against, bare(lib))
		}
	}
	return u
}

// bare returns an interface of a library, with a name and a macro.
func bare(lib string) api.Interface {
	l := []api.Export{{Name: "f" + lib, Full: "f@" + lib, Kind: api.DfGeneric, Arity: 1}}
	return api.Interface{Face: api.Face{Lib: lib, Names: l}, Whole: api.Face{Lib: lib, Names: slices.Clone(l)}, Macros: []api.Macro{plain("m" + lib)}}
}

// changedUnits calls f with changes of a library or patch, and whether it is valid after each one.
func changedUnits(f func(what string, u api.Unit, right bool)) {
	one := []api.Expr{{Kind: api.ExNum, Num: 1}}
	against := func(n int) []api.Interface {
		var l []api.Interface
		for i := range n {
			l = append(l, bare(fmt.Sprint("l", i)))
		}
		return l
	}
	for _, x := range []struct {
		what, name string
		change     func(u *api.Unit)
		right      bool
	}{
		{"as it is", "a", func(u *api.Unit) {}, true},
		{"no Uses, and no Against", "a", func(u *api.Unit) { u.Library.Uses, u.Against = nil, nil }, true},
		{"Uses that are not in Against", "a", func(u *api.Unit) { u.Library.Uses = []string{"", "x", "x", "a"} }, true},
		{"many Uses", "a", func(u *api.Unit) { u.Library.Uses = slices.Repeat([]string{"b"}, 1000) }, true},
		{"a main expression", "a", func(u *api.Unit) { u.Main = one }, true},
		{"a zero main expression", "a", func(u *api.Unit) { u.Main = []api.Expr{{}} }, true},
		{"two main expressions", "a", func(u *api.Unit) { u.Main = append(one, one...) }, false},
		{"definitions that are none", "a", func(u *api.Unit) { u.Library.Defs = make([]api.Def, 1000) }, true},
		{"no name", "a", func(u *api.Unit) { u.Library.Name = "" }, false},
		{"another name", "a", func(u *api.Unit) { u.Library.Name = "b" }, false},
		{"no name at all", "a", func(u *api.Unit) { u.Library.Name, u.Interface.Face.Lib, u.Interface.Whole.Lib = "", "", "" }, false},
		{"another name everywhere", "a", func(u *api.Unit) { u.Library.Name, u.Interface = "b", bare("b") }, true},
		{"a name that is no library name", "a", func(u *api.Unit) {
			u.Library.Name, u.Interface.Face.Lib, u.Interface.Whole.Lib = "<b>", "<b>", "<b>"
		}, true},
		{"a zero interface", "a", func(u *api.Unit) { u.Interface = api.Interface{} }, false},
		{"an interface that is not valid", "a", func(u *api.Unit) { u.Interface.Macros = append(u.Interface.Macros, plain("end")) }, false},
		{"an interface whose Whole is not valid", "a", func(u *api.Unit) { u.Interface.Whole.Lib = "b" }, false},
		{"as many Against as may be", "a", func(u *api.Unit) { u.Against = against(api.MaxLibs) }, true},
		{"too many Against", "a", func(u *api.Unit) { u.Against = against(api.MaxLibs + 1) }, false},
		{"a library twice in Against", "a", func(u *api.Unit) { u.Against = append(u.Against, u.Against[0]) }, false},
		{"its own name in Against", "a", func(u *api.Unit) { u.Against = append(u.Against, bare("a")) }, true},
		{"a zero interface in Against", "a", func(u *api.Unit) { u.Against = []api.Interface{{}} }, false},
		{"an interface that is not valid in Against", "a", func(u *api.Unit) { u.Against[1].Macros[0].Rules = nil }, false},
		{"a library that is said to be a patch", "a", func(u *api.Unit) { u.Patch = true }, false},
		{"a library without uses that is said to be a patch", "a", func(u *api.Unit) { u.Patch, u.Library.Uses = true, nil }, false},
		{"as it is", "a!", func(u *api.Unit) {}, true},
		{"no Against", "a!", func(u *api.Unit) { u.Against = nil }, true},
		{"other Against", "a!", func(u *api.Unit) { u.Against = against(api.MaxLibs) }, true},
		{"too many Against", "a!", func(u *api.Unit) { u.Against = against(api.MaxLibs + 1) }, false},
		{"a library twice in Against", "a!", func(u *api.Unit) { u.Against = append(u.Against, u.Against[0]) }, false},
		{"a zero interface in Against", "a!", func(u *api.Unit) { u.Against = []api.Interface{{}} }, false},
		{"empty lists", "a!", func(u *api.Unit) {
			u.Main, u.Library.Uses = []api.Expr{}, []string{}
			u.Interface = api.Interface{Face: api.Face{Names: []api.Export{}}, Whole: api.Face{Names: []api.Export{}}, Macros: []api.Macro{}}
		}, true},
		{"any name", "a!", func(u *api.Unit) { u.Library.Name = " " }, true},
		{"no name", "a!", func(u *api.Unit) { u.Library.Name = "" }, false},
		{"a use", "a!", func(u *api.Unit) { u.Library.Uses = []string{"a"} }, false},
		{"a main expression", "a!", func(u *api.Unit) { u.Main = one }, false},
		{"two main expressions", "a!", func(u *api.Unit) { u.Main = append(one, one...) }, false},
		{"an interface", "a!", func(u *api.Unit) { u.Interface = bare("a") }, false},
		{"an interface with a Lib of Face", "a!", func(u *api.Unit) { u.Interface.Face.Lib = "a" }, false},
		{"an interface with a Lib of Whole", "a!", func(u *api.Unit) { u.Interface.Whole.Lib = "a" }, false},
		{"an interface with a name in Face", "a!", func(u *api.Unit) { u.Interface.Face.Names = []api.Export{{}} }, false},
		{"an interface with a name in Whole", "a!", func(u *api.Unit) { u.Interface.Whole.Names = []api.Export{{}} }, false},
		{"an interface with a macro", "a!", func(u *api.Unit) { u.Interface.Macros = []api.Macro{{}} }, false},
		{"a patch that is said to be a library", "a!", func(u *api.Unit) { u.Patch = false }, false},
	} {
		u := unit(x.name, "b", "c")
		if u.Patch {
			u = unit(x.name)
		}
		x.change(&u)
		f(x.name+": "+x.what, u, x.right)
	}
}

func TestP6_1CheckUnit(t *testing.T) {
	changedUnits(func(what string, u api.Unit, right bool) {
		if e := library.CheckUnit(u); (e == api.OK) != right || !right && e != api.ErrInterface {
			t.Errorf("%s: CheckUnit = %v", what, e)
		}
	})
	if e := library.CheckUnit(api.Unit{}); e != api.ErrInterface {
		t.Errorf("CheckUnit of a zero unit = %v", e)
	}
}
