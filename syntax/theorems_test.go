package syntax_test

import (
	"fmt"
	"math/rand"
	"slices"
	"strings"
	"testing"

	"skerry/api"
	"skerry/fragment"
	"skerry/lex"
	"skerry/syntax"
)

func TestP4_6RoundTrip(t *testing.T) {
	m := newMaker(6)
	kinds := map[int]int{}
	var count func(e api.Expr)
	count = func(e api.Expr) {
		kinds[e.Kind]++
		for _, a := range e.Args {
			count(a)
		}
	}
	for i := range 6000 {
		x := m.tree(1 + i%60)
		if e := syntax.CheckExpr(x); e != api.OK {
			t.Fatalf("CheckExpr of %s = %v", show(x), e)
		}
		back(t, "a random tree", x)
		count(x)
	}
	for kind := range 15 {
		if kind > 0 && kinds[kind] < 500 {
			t.Errorf("there were only %d expressions of the kind %d", kinds[kind], kind)
		}
	}
	for range 1500 {
		s := m.source()
		if e := syntax.Check(s); e != api.OK {
			t.Fatalf("Check of %+v = %v", s, e)
		}
		if backSource(t, "a random source", s) {
			t.Fatalf("Print of %+v has ErrLong", s)
		}
	}
}

// TestP4_6Fragments: what is printed can be read as fragments, too, whose tokens are parsed back.
func TestP4_6Fragments(t *testing.T) {
	m := newMaker(66)
	for range 1000 {
		s := m.source()
		text, _ := syntax.Print(s)
		l, at, e := fragment.Read(scan(t, text), nil)
		if e != api.OK {
			t.Fatalf("Read of %q = %d, %v", text, at, e)
		}
		if x, at, e := syntax.Parse(l); at != 0 || e != api.OK || !exactly(x, s) {
			t.Fatalf("Parse of the fragments of %q = %+v, %d, %v; expected %+v", text, x, at, e, s)
		}
	}
}

// written calls f with n random texts of a rule that are parsed without an error.
func written(t *testing.T, seed int64, n int, rule symbol, names []string, f func(rnd *rand.Rand, text string, l []api.Token)) {
	t.Helper()
	rnd := rand.New(rand.NewSource(seed))
	w := &writer{grammar: newGrammar(), Rand: rnd, names: names}
	for n > 0 {
		text := w.text(rule, 80)
		l := scan(t, text)
		if _, e := parses(rule, l); e == api.OK {
			f(rnd, text, l)
			n--
		}
	}
}

func TestP4_7Canonical(t *testing.T) {
	names := []string{"x", "y", "<a>", "x@1", "y@l"}
	written(t, 7, 1200, "expr", names, func(rnd *rand.Rand, text string, l []api.Token) {
		x, _, _ := syntax.ParseExpr(l)
		again, _, _ := syntax.ParseExpr(scan(t, back(t, text, x)))
		if one, two := back(t, text, x), back(t, text, again); one != two {
			t.Fatalf("%q is printed as %q, and then as %q", text, one, two)
		}
		within := "( " + text + " )"
		if y, at, e := syntax.ParseExpr(scan(t, within)); at != 0 || e != api.OK || !exactly(x, y) {
			t.Fatalf("ParseExpr of %q = %s, %d, %v; expected %s", within, show(y), at, e, show(x))
		}
	})
	written(t, 77, 500, "source", names, func(rnd *rand.Rand, text string, l []api.Token) {
		s, _, _ := syntax.ParseTokens(l)
		one, _ := syntax.Print(s)
		again, _, _ := syntax.ParseTokens(scan(t, one))
		if two, e := syntax.Print(again); one != two || e != api.OK || !exactly(s, again) {
			t.Fatalf("%q is printed as %q, and then as %q, %v", text, one, two, e)
		}
	})
}

// TestP4_7Parentheses puts parentheses around each expr of a text, which has them marked by braces.
func TestP4_7Parentheses(t *testing.T) {
	g := newGrammar()
	for name, choices := range g.rules {
		for i, l := range choices {
			var now []symbol
			for _, s := range l {
				if s == "expr" {
					now = append(now, `"{"`, s, `"}"`)
				} else {
					now = append(now, s)
				}
			}
			g.rules[name][i] = now
		}
	}
	rnd := rand.New(rand.NewSource(777))
	w := &writer{grammar: g, Rand: rnd, names: []string{"x", "y", "<a>"}}
	for n := 0; n < 2000; {
		words := w.write("expr")
		w.left = rnd.Intn(60)
		bare := strings.NewReplacer("{ ", "", "} ", "", " }", "").Replace(strings.Join(words, " "))
		x, _, e := syntax.ParseExpr(scan(t, bare))
		if e != api.OK {
			continue
		}
		n++
		// Of braces that belong together both or none become parentheses.
		var open []bool
		var out []string
		for _, s := range words {
			switch s {
			case "{":
				open = append(open, rnd.Intn(3) == 0)
				s = ""
				if open[len(open)-1] {
					s = "("
				}
			case "}":
				s = ""
				if open[len(open)-1] {
					s = ")"
				}
				open = open[:len(open)-1]
			}
			out = append(out, s)
		}
		text := strings.Join(out, " ")
		if y, at, e := syntax.ParseExpr(scan(t, text)); at != 0 || e != api.OK || !exactly(x, y) {
			t.Fatalf("ParseExpr of %q = %s, %d, %v; of %q it is %s", text, show(y), at, e, bare, show(x))
		}
	}
}

// renamed returns an expression in which the names of variables are replaced, given those of the bindings in whose scopes they are: f gets a name, and whether it is bound there.
func renamed(e api.Expr, bound []string, f func(name string, bound bool) string) api.Expr {
	is := slices.Contains(bound, e.Name)
	x := e
	x.Params = slices.Clone(e.Params)
	x.Args = slices.Clone(e.Args)
	inner := func(i int, names ...string) {
		x.Args[i] = renamed(e.Args[i], append(slices.Clone(bound), names...), f)
	}
	switch e.Kind {
	case api.ExVar:
		x.Name = f(e.Name, is)
	case api.ExLet:
		x.Name = f(e.Name, true)
		inner(1, e.Name)
		if e.Args[0].Kind == api.ExFn && e.Args[0].Name != "" {
			inner(0, e.Name)
		} else {
			inner(0)
		}
	case api.ExFn:
		names := []string{}
		for i, p := range e.Params {
			names = append(names, p.Name)
			x.Params[i].Name = f(p.Name, true)
		}
		if e.Name != "" {
			x.Name = f(e.Name, true)
		}
		inner(0, names...)
	case api.ExBlock:
		if e.Name != "" {
			x.Name = f(e.Name, true)
			inner(0, e.Name)
		} else {
			inner(0)
		}
		if len(x.Args) > 1 {
			inner(1)
		}
	default:
		for i := range x.Args {
			inner(i)
		}
	}
	return x
}

func TestP4_8Hygiene(t *testing.T) {
	marked := 0
	written(t, 8, 4000, "expr", []string{"x", "y", "z", "<a>", "f"}, func(rnd *rand.Rand, text string, l []api.Token) {
		x, _, _ := syntax.ParseExpr(l)
		k := slices.Clone(l)
		mark := 1 + rnd.Intn(20)
		for i := range k {
			k[i].Mark = mark
		}
		y, at, e := syntax.ParseExpr(k)
		if at != 0 || e != api.OK {
			t.Fatalf("with the Mark %d ParseExpr of %q = %d, %v", mark, text, at, e)
		}
		want := renamed(x, nil, func(name string, bound bool) string {
			if bound {
				return name
			}
			return name + "@0"
		})
		if !syntax.Alpha(y, want) {
			t.Fatalf("with the Mark %d ParseExpr of %q = %s; expected %s up to bound variables", mark, text, show(y), show(want))
		}
		for _, name := range syntax.Free(y) {
			if !strings.HasSuffix(name, "@0") {
				t.Fatalf("with the Mark %d ParseExpr of %q = %s, in which %s is free", mark, text, show(y), name)
			}
		}
		if strings.Contains(show(y), fmt.Sprintf("@%d", mark)) {
			marked++
		}
	})
	if marked < 1000 {
		t.Errorf("there were only %d expressions with bound variables", marked)
	}
}

// indexed writes an expression with the number of bindings around, and within that of a variable, in the place of its name, if it is bound.
func indexed(e api.Expr, bound []string) string {
	x := e
	if e.Kind == api.ExVar {
		if i := slices.Index(bound, e.Name); i >= 0 {
			x.Name = fmt.Sprintf("#%d", i)
		}
		return x.Name
	}
	if (e.Kind == api.ExLet || e.Kind == api.ExFn || e.Kind == api.ExBlock) && e.Name != "" {
		x.Name = "#"
	}
	params := ""
	for _, p := range e.Params {
		params += fmt.Sprintf("%+v,", p.Type)
	}
	x.Params, x.Args = nil, nil
	out := fmt.Sprintf("{%+v %s", x, params)
	for i, a := range e.Args {
		inner := bound
		switch {
		case e.Kind == api.ExLet && (i == 1 || a.Kind == api.ExFn && a.Name != ""), e.Kind == api.ExBlock && i == 0:
			inner = append([]string{e.Name}, bound...)
		case e.Kind == api.ExFn:
			for _, p := range e.Params {
				inner = append([]string{p.Name}, inner...)
			}
		}
		out += " " + indexed(a, inner)
	}
	return out + "}"
}

// free returns the variables of an expression that are not bound.
func free(e api.Expr) []string {
	var out []string
	renamed(e, nil, func(name string, bound bool) string {
		if !bound && !slices.Contains(out, name) {
			out = append(out, name)
		}
		return name
	})
	return out
}

// TestP4_10Renaming compares Alpha and Free of small expressions of few names with those of the definition.
func TestP4_10Renaming(t *testing.T) {
	m := newMaker(10)
	var l []api.Expr
	for range 300 {
		l = append(l, m.binders(2))
	}
	same := 0
	for _, a := range l {
		for _, b := range l {
			is := syntax.Alpha(a, b)
			if is != (indexed(a, nil) == indexed(b, nil)) {
				t.Fatalf("Alpha of %s and %s = %v", show(a), show(b), is)
			}
			if is && !slices.Equal(syntax.Free(a), syntax.Free(b)) {
				t.Fatalf("Free of %s = %q, of %s it is %q", show(a), syntax.Free(a), show(b), syntax.Free(b))
			}
			if is && !exactly(a, b) {
				same++
			}
		}
	}
	if same < 50 {
		t.Errorf("only %d pairs were the same up to names", same)
	}
	// All bound variables of larger ones get other names, or one does.
	m.names = []string{"x", "y", "z", "x@1", "x@0"}
	for range 3000 {
		a := m.tree(40)
		got := slices.Clone(syntax.Free(a))
		want := slices.Clone(free(a))
		if slices.Sort(got); !slices.Equal(got, slices.Sorted(slices.Values(want))) {
			t.Fatalf("Free of %s = %q; expected %q", show(a), got, want)
		}
		all := func(name string, bound bool) string {
			if bound {
				return "new-" + strings.ReplaceAll(name, "@", "-")
			}
			return name
		}
		b := renamed(a, nil, all)
		c := renamed(b, nil, func(name string, bound bool) string {
			if bound {
				return name + "@9"
			}
			return name
		})
		if !syntax.Alpha(a, a) || !syntax.Alpha(a, b) || !syntax.Alpha(b, a) || !syntax.Alpha(b, c) || !syntax.Alpha(a, c) {
			t.Fatalf("Alpha of %s, %s and %s is false", show(a), show(b), show(c))
		}
		if !slices.Equal(syntax.Free(a), syntax.Free(b)) {
			t.Fatalf("Free of %s = %q, of %s it is %q", show(a), syntax.Free(a), show(b), syntax.Free(b))
		}
		if free := syntax.Free(a); len(free) > 0 {
			other := renamed(a, nil, func(name string, bound bool) string {
				if !bound && name == free[0] {
					return "other"
				}
				return name
			})
			if syntax.Alpha(a, other) || syntax.Alpha(other, a) {
				t.Fatalf("Alpha of %s and %s is true", show(a), show(other))
			}
		}
	}
}

// TestP4_10One renames one binding, and what is bound by it, to a variable that does not occur.
func TestP4_10One(t *testing.T) {
	m := newMaker(100)
	m.names = []string{"x", "y", "z"}
	n := 0
	for range 3000 {
		a := m.tree(30)
		for _, path := range bindings(a, nil) {
			b := rebound(a, path)
			n++
			if syntax.CheckExpr(b) != api.OK || !syntax.Alpha(a, b) || !syntax.Alpha(b, a) || exactly(a, b) {
				t.Fatalf("Alpha of %s and %s is false", show(a), show(b))
			}
		}
	}
	if n < 2000 {
		t.Errorf("only %d bindings were renamed", n)
	}
}

// bindings returns the paths of the expressions that bind one variable.
func bindings(e api.Expr, path []int) [][]int {
	var out [][]int
	if e.Kind == api.ExLet && e.Name != "%|" || e.Kind == api.ExBlock && e.Name != "" || e.Kind == api.ExFn && len(e.Params) == 1 {
		out = append(out, slices.Clone(path))
	}
	for i, a := range e.Args {
		out = append(out, bindings(a, append(path, i))...)
	}
	return out
}

// rebound returns an expression in which the variable that the one at a path binds is named new.
func rebound(e api.Expr, path []int) api.Expr {
	x := e
	x.Args = slices.Clone(e.Args)
	if len(path) > 0 {
		x.Args[path[0]] = rebound(e.Args[path[0]], path[1:])
		return x
	}
	old := e.Name
	if e.Kind == api.ExFn {
		old = e.Params[0].Name
		x.Params = []api.Param{{Name: "new", Type: e.Params[0].Type}}
	} else {
		x.Name = "new"
	}
	for i, a := range e.Args {
		if e.Kind == api.ExLet && i == 0 && (a.Kind != api.ExFn || a.Name == "") || e.Kind == api.ExBlock && i == 1 {
			continue
		}
		y := renamed(a, nil, func(name string, bound bool) string {
			if !bound && name == old {
				return "new"
			}
			return name
		})
		if e.Kind == api.ExLet && i == 0 {
			y.Name = "new"
			y.Args = []api.Expr{a.Args[0]}
			if !slices.ContainsFunc(a.Params, func(p api.Param) bool { return p.Name == old }) {
				y.Args[0] = renamed(a.Args[0], nil, func(name string, bound bool) string {
					if !bound && name == old {
						return "new"
					}
					return name
				})
			}
		}
		x.Args[i] = y
	}
	return x
}

func TestP4_11Joined(t *testing.T) {
	rnd := rand.New(rand.NewSource(11))
	w := &writer{grammar: newGrammar(), Rand: rnd, names: []string{"x", "y"}}
	// some returns the texts of expressions, and their trees.
	some := func() (texts []string, trees []api.Expr) {
		for len(texts) < 1+rnd.Intn(4) {
			text := w.text("expr", 30)
			if x, _, e := syntax.ParseExpr(scan(t, text)); e == api.OK {
				texts, trees = append(texts, text), append(trees, x)
			}
		}
		return texts, trees
	}
	for range 2000 {
		a, x := some()
		b, y := some()
		text := "begin " + strings.Join(a, " ; ") + " ; " + strings.Join(b, " ; ") + " end"
		if got, want := expr(t, text), seq(append(x, y...)...); !exactly(got, want) {
			t.Fatalf("ParseExpr of %q = %s; expected %s", text, show(got), show(want))
		}
	}
}

// TestP4_1Again: the same call has the same result, and arguments are not changed.
func TestP4_1Again(t *testing.T) {
	m := newMaker(1)
	for range 200 {
		s := m.source()
		text, _ := syntax.Print(s)
		l := scan(t, text)
		k := slices.Clone(l)
		before := fmt.Sprintf("%+v", s)
		for range 3 {
			x, _, _ := syntax.ParseTokens(l)
			again, e := syntax.Print(s)
			if !exactly(x, s) || again != text || e != api.OK || syntax.Check(s) != api.OK || fmt.Sprintf("%+v", s) != before || !lex.Same(k, l) {
				t.Fatalf("the results for %q are not the same again", text)
			}
		}
	}
}
