package library_test

import (
	"fmt"
	"math/rand"
	"slices"
	"strings"
	"testing"

	"skerry/api"
	"skerry/fragment"
	"skerry/lex"
	"skerry/library"
	"skerry/macro"
	"skerry/syntax"
)

// bareText writes an interface without what does not matter for whether two are the same.
func bareText(i api.Interface) string {
	var text func(l []api.Frag) string
	text = func(l []api.Frag) string {
		out := ""
		for _, f := range l {
			out += fmt.Sprintf("%q/%d/%q(%s)", f.Tok.Text, f.Tok.Kind, f.Open, text(f.Kids))
		}
		return out
	}
	out := fmt.Sprintf("%+v %+v", i.Face, i.Whole)
	for _, m := range i.Macros {
		out += fmt.Sprintf(" %s %v", m.Name, m.Statement)
		for _, r := range m.Rules {
			out += " {" + text(r.Pattern) + "} => {" + text(r.Template) + "}"
		}
	}
	return out
}

// graph is what units are for the second implementation: the uses of all, by their indices.
type graph struct {
	units []api.Unit
	at    map[string]int // the libraries
	needs [][]string
}

func newGraph(l []api.Unit) graph {
	g := graph{l, map[string]int{}, nil}
	for i, u := range l {
		needs := u.Library.Uses
		if u.Patch {
			needs = []string{u.Library.Name}
		} else {
			g.at[u.Library.Name] = i
		}
		g.needs = append(g.needs, needs)
	}
	return g
}

func (g graph) lacks() bool {
	for _, l := range g.needs {
		for _, name := range l {
			if _, is := g.at[name]; !is {
				return true
			}
		}
	}
	return false
}

// reach returns for each unit which libraries can be reached from it in a step or more (Warshall's algorithm).
func (g graph) reach() [][]bool {
	n := len(g.units)
	r := make([][]bool, n)
	for i := range r {
		r[i] = make([]bool, n)
		for _, name := range g.needs[i] {
			r[i][g.at[name]] = true
		}
	}
	for k := range n {
		for i := range n {
			for j := range n {
				r[i][j] = r[i][j] || r[i][k] && r[k][j]
			}
		}
	}
	return r
}

// order tries the libraries again and again from the first one on; nil and false if there is a loop.
func (g graph) order() ([]int, bool) {
	var l []int
	for len(l) < len(g.at) {
		found := -1
		for i := len(g.units) - 1; i >= 0; i-- { // the last one that is found is the first one
			ready := !g.units[i].Patch && !slices.Contains(l, i)
			for _, name := range g.needs[i] {
				ready = ready && slices.Contains(l, g.at[name])
			}
			if ready {
				found = i
			}
		}
		if found < 0 {
			return nil, false
		}
		l = append(l, found)
	}
	return l, true
}

func (g graph) stale() []int {
	var l []int
	for i, u := range g.units {
		fresh := true
		for _, name := range g.needs[i] {
			fresh = fresh && strings.Contains(" "+libs(u.Against)+" ", " "+name+" ")
		}
		for _, a := range u.Against {
			at, is := g.at[a.Face.Lib]
			fresh = fresh && is && bareText(a) == bareText(g.units[at].Interface)
		}
		if !fresh {
			l = append(l, i)
		}
	}
	return l
}

// answers is what all functions of units return.
type answers struct {
	Order, Stale           []int
	Program                api.Program
	OrderE, StaleE, LinkE  api.Errno
	Depends                map[string][]string
	DependsE, DependsNoneE api.Errno
}

var libNames = []string{"a", "b", "c", "d", "e", "f"}

// slowly makes the answers with the second implementation.
func slowly(l []api.Unit) answers {
	a := answers{Depends: map[string][]string{}}
	fail := func(e api.Errno) answers {
		return answers{OrderE: e, StaleE: e, LinkE: e, DependsE: e, DependsNoneE: e, Depends: map[string][]string{}}
	}
	if len(l) > api.MaxUnits {
		return fail(api.ErrLong)
	}
	var seen []string
	for _, u := range l {
		if library.CheckUnit(u) != api.OK {
			return fail(api.ErrInterface)
		}
	}
	for _, u := range l {
		if !u.Patch && slices.Contains(seen, u.Library.Name) {
			return fail(api.ErrTwin)
		}
		if !u.Patch {
			seen = append(seen, u.Library.Name)
		}
	}
	g := newGraph(l)
	a.Stale = g.stale()
	a.DependsNoneE = api.ErrNone
	if g.lacks() {
		a.OrderE, a.LinkE = api.ErrMissing, api.ErrMissing
		if len(g.at) > 0 {
			a.DependsE = api.ErrMissing
		}
		return a
	}
	reach := g.reach()
	for name, at := range g.at {
		var l []string
		for _, other := range libNames {
			if to, is := g.at[other]; is && reach[at][to] {
				l = append(l, other)
			}
		}
		a.Depends[name] = l
	}
	order, is := g.order()
	if !is {
		a.OrderE, a.LinkE = api.ErrLoop, api.ErrLoop
		return a
	}
	a.Order = order
	var mains []api.Expr
	for _, u := range l {
		mains = append(mains, u.Main...)
	}
	switch {
	case len(a.Stale) > 0:
		a.LinkE = api.ErrStale
	case len(mains) != 1:
		a.LinkE = api.ErrMain
	default:
		for _, i := range order {
			a.Program.Libs = append(a.Program.Libs, l[i].Library)
		}
		for _, u := range l {
			if u.Patch {
				a.Program.Patches = append(a.Program.Patches, u.Library)
			}
		}
		a.Program.Main = mains[0]
	}
	return a
}

// quickly makes the answers with the package.
func quickly(l []api.Unit) answers {
	a := answers{Depends: map[string][]string{}}
	a.Order, a.OrderE = library.Order(l)
	a.Stale, a.StaleE = library.Stale(l)
	a.Program, a.LinkE = library.Link(l)
	for _, name := range libNames {
		switch names, e := library.Depends(l, name); e {
		case api.OK:
			a.Depends[name] = names
		case api.ErrNone:
		default:
			a.DependsE = e
		}
	}
	_, a.DependsNoneE = library.Depends(l, "none")
	return a
}

type maker struct{ *rand.Rand }

func newMaker(seed int64) *maker { return &maker{rand.New(rand.NewSource(seed))} }

func pick[T any](m *maker, l ...T) T { return l[m.Intn(len(l))] }

// rarely reports true in one of n cases.
func (m *maker) rarely(n int) bool { return m.Intn(n) == 0 }

// units returns units most of which fit together.
func (m *maker) units() []api.Unit {
	n := 1 + m.Intn(len(libNames))
	level := m.Perm(n)
	loops := m.rarely(3)
	var l []api.Unit
	for i := range n {
		var uses []string
		for j := range n {
			if (level[j] < level[i] || loops && m.rarely(4)) && m.rarely(2) {
				uses = append(uses, libNames[j])
			}
		}
		if m.rarely(40) {
			uses = append(uses, pick(m, libNames...))
		}
		m.Shuffle(len(uses), func(i, j int) { uses[i], uses[j] = uses[j], uses[i] })
		l = append(l, unit(libNames[i], uses...))
	}
	l[m.Intn(n)].Main = []api.Expr{{Kind: api.ExNum, Num: 1}}
	for m.rarely(2) {
		l = append(l, unit(libNames[m.Intn(n)]+"!"))
	}
	m.Shuffle(len(l), func(i, j int) { l[i], l[j] = l[j], l[i] })
	for m.rarely(3) {
		m.spoil(l)
	}
	return l
}

// spoil changes something of units.
func (m *maker) spoil(l []api.Unit) {
	u := &l[m.Intn(len(l))]
	change := func(i *api.Interface) {
		switch m.Intn(4) {
		case 0:
			i.Macros = marked(i.Macros)
		case 1:
			i.Macros = append(i.Macros, plain("more"))
		case 2:
			i.Whole.Names = append(i.Whole.Names, api.Export{Name: "more", Full: "more@x", Kind: api.DfConst})
		default:
			i.Face.Names = nil
		}
	}
	switch m.Intn(8) {
	case 0:
		u.Main = []api.Expr{{Kind: api.ExNum, Num: 2}}
	case 1:
		u.Main = nil
	case 2:
		if len(u.Against) > 0 {
			change(&u.Against[m.Intn(len(u.Against))])
		}
	case 3:
		if len(u.Against) > 0 {
			i := m.Intn(len(u.Against))
			u.Against = append(slices.Clone(u.Against[:i]), u.Against[i+1:]...)
		}
	case 4:
		u.Against = append(u.Against, bare(pick(m, libNames...)))
	case 5:
		u.Library.Name = pick(m, libNames...)
		if !u.Patch && !m.rarely(4) {
			u.Interface.Face.Lib, u.Interface.Whole.Lib = u.Library.Name, u.Library.Name
		}
	case 6:
		if m.rarely(3) {
			u.Patch = !u.Patch
		}
	default:
		if !u.Patch {
			change(&u.Interface)
		}
	}
}

// TestP6_1ReferenceUnits compares Order, Stale, Link and Depends with a second implementation.
func TestP6_1ReferenceUnits(t *testing.T) {
	m := newMaker(1)
	found := map[api.Errno]int{}
	for range 6000 {
		l := m.units()
		before := fmt.Sprintf("%+v", l)
		got, want := quickly(l), slowly(l)
		if !exactly(got, want) {
			t.Fatalf("the answers of %s are\n%+v; expected\n%+v", before, got, want)
		}
		if fmt.Sprintf("%+v", l) != before {
			t.Fatalf("the units %s were changed", before)
		}
		found[want.LinkE]++
	}
	for _, e := range []api.Errno{api.OK, api.ErrInterface, api.ErrTwin, api.ErrMissing, api.ErrLoop, api.ErrStale, api.ErrMain} {
		if found[e] < 50 {
			t.Errorf("only %d units have the error %v", found[e], e)
		}
	}
}

// slowUses returns the macros that tokens use: the text that lex.Join makes of them is looked through.
func slowUses(tokens []api.Token, used []api.Interface) []api.Macro {
	text := " " + lex.Join(tokens) + " "
	var l []api.Macro
	for _, i := range used {
		if !strings.Contains(text, " use "+i.Face.Lib+" ; ") {
			continue
		}
		for _, m := range i.Macros {
			if !strings.Contains(" "+strings.ReplaceAll(macroNames(l), "*", "")+" ", " "+m.Name+" ") {
				l = append(l, m)
			}
		}
	}
	return l
}

// slowFront makes the five steps one behind the other.
func slowFront(text string, used []api.Interface) (api.Source, []api.Macro, api.Trouble, api.Errno) {
	var none api.Source
	tokens, at, e := lex.Scan(text)
	if e != api.OK {
		return none, nil, api.Trouble{Layer: 1, At: at}, e
	}
	words := macro.Words(tokens)
	uses := slowUses(tokens, used)
	for _, m := range uses {
		if m.Statement && !slices.Contains(words, m.Name) {
			words = append(words, m.Name)
		}
	}
	frags, at, e := fragment.Read(tokens, words)
	if e != api.OK {
		return none, nil, api.Trouble{Layer: 2, At: at}, e
	}
	own, rest, at, e := macro.Define(frags)
	if e != api.OK {
		return none, nil, api.Trouble{Layer: 3, At: at}, e
	}
	all := slices.Clone(own)
	for _, m := range uses {
		if !slices.ContainsFunc(own, func(o api.Macro) bool { return o.Name == m.Name }) {
			all = append(all, m)
		}
	}
	now, _, at, e := macro.With(all, rest)
	if e != api.OK {
		return none, nil, api.Trouble{Layer: 3, At: at}, e
	}
	s, at, e := syntax.Parse(now)
	if e != api.OK {
		return none, nil, api.Trouble{Layer: 4, At: at}, e
	}
	return s, own, api.Trouble{}, api.OK
}

// scrap returns a text of tokens that make up libraries with macros, more or less.
func (m *maker) scrap() string {
	parts := []string{"library x ;"}
	for _, lib := range []string{"u", "v", "w"} {
		parts = append(parts, pick(m, "", "use "+lib+" ;", "use "+lib+" ;", "use "+lib+" , prefix: p ;", "use "+lib+" , import: { k } ;"))
	}
	for range m.Intn(4) {
		name := pick(m, "m", "n", "o")
		parts = append(parts, pick(m,
			"define macro "+name+" { "+name+" ( ?e:expression ) } => { "+pick(m, "?e + 1", "( m ( ?e ) )", "begin let t = ?e ; t end", "n ( ?e )")+" } end ;",
			"define macro s { s ?b:body end } => { "+pick(m, "begin ?b end", "s ?b end", "if ( m ( 1 ) ) ?b end", "t ?b end")+" } end ;",
			"define constant k = "+m.scrapExpr()+" ;",
			"define method f ( x ) "+m.scrapExpr()+" end ;"))
	}
	if m.rarely(2) {
		parts = append(parts, m.scrapExpr())
	}
	if m.rarely(4) {
		l := strings.Fields(strings.Join(parts, " "))
		for range 1 + m.Intn(2) {
			l[m.Intn(len(l))] = pick(m, l...)
		}
		if m.rarely(8) {
			l[m.Intn(len(l))] = pick(m, "#x", "007", "\"")
		}
		return strings.Join(l, " ")
	}
	return strings.Join(parts, " ")
}

func (m *maker) scrapExpr() string {
	switch m.Intn(8) {
	case 0:
		return "m ( " + m.scrapExpr() + " )"
	case 1:
		return "n ( " + m.scrapExpr() + " )"
	case 2:
		return "s " + m.scrapExpr() + " end"
	case 3:
		return "t " + m.scrapExpr() + " ; " + m.scrapExpr() + " end"
	case 4:
		return "( " + m.scrapExpr() + " + k )"
	}
	return pick(m, "1", "x", "k", "f ( x )")
}

// TestP6_1ReferenceFront compares Uses, Front and Build with a second implementation.
func TestP6_1ReferenceFront(t *testing.T) {
	var used []api.Interface
	for _, text := range []string{
		"library u ; define macro m { m ( ?e:expression ) } => { ( ?e * 2 ) } end ; define macro s { s ?b:body end } => { begin 3 ; ?b end } end ;",
		"library v ; export k ; define constant k = 4 ; define macro m { m ( ?e:expression ) } => { ( ?e * 5 ) } end ; define macro n { n ( ?e:token ) } => { m ( ?e ) } end ;",
		"library w ; define macro t { t ?a:expression ; ?b:body end } => { begin let v = ?a ; ?b end } end ;",
	} {
		used = append(used, built(t, text).Interface)
	}
	m := newMaker(3)
	found := map[int]int{}
	for range 3000 {
		text := m.scrap()
		l := slices.Clone(used)
		m.Shuffle(len(l), func(i, j int) { l[i], l[j] = l[j], l[i] })
		l = l[:2+m.Intn(2)]
		s, own, trouble, e := library.Front(text, l)
		wantS, wantOwn, wantTrouble, wantE := slowFront(text, l)
		if !exactly(s, wantS) || !exactly(own, wantOwn) || trouble != wantTrouble || e != wantE {
			t.Fatalf("Front of %q with %s = %s, %s, %v, %v; expected %s, %s, %v, %v", text, libs(l), printed(s), macroNames(own), trouble, e, printed(wantS), macroNames(wantOwn), wantTrouble, wantE)
		}
		if tokens, _, e := lex.Scan(text); e == api.OK {
			want := slowUses(tokens, l)
			if got, e := library.Uses(text, l); e != api.OK || !exactly(got, want) {
				t.Fatalf("Uses of %q with %s = %s, %v; expected %s", text, libs(l), macroNames(got), e, macroNames(want))
			}
		}
		u, trouble, e := library.Build(text, l)
		var want api.Unit
		if wantE == api.OK {
			want, wantE = library.Compile(wantS, wantOwn, l)
			if wantE != api.OK {
				wantTrouble = api.Trouble{Layer: 5}
			}
		}
		if !exactly(u, want) || trouble != wantTrouble || e != wantE {
			t.Fatalf("Build of %q = %+v, %v, %v; expected %+v, %v, %v", text, u, trouble, e, want, wantTrouble, wantE)
		}
		found[trouble.Layer]++
	}
	for layer, least := range []int{200, 10, 100, 100, 50, 200} {
		if found[layer] < least {
			t.Errorf("the layers have refused so many texts (0: none): %v", found)
			break
		}
	}
}
