package library_test

import (
	"fmt"
	"slices"
	"strings"
	"testing"

	"skerry/api"
	"skerry/lex"
	"skerry/library"
	"skerry/syntax"
)

// draft is a library or patch that is written. A § in its parts stands for a number, which does not matter for its interface.
type draft struct {
	name    string
	patch   bool
	uses    []string
	clauses []string
	exports []string
	macros  []string // of the forms f# (…) and s … end, without numbers in between
	defs    []string
	main    string
}

// text writes a draft, with numbers and gaps that a maker chooses.
func (d draft) text(m *maker) string {
	out := "library " + d.name + " ; "
	if d.patch {
		out = "patch " + d.name + " ; "
	}
	parts := slices.Clone(d.clauses)
	if len(d.exports) > 0 {
		parts = append(parts, "export "+strings.Join(d.exports, " , ")+" ;")
	}
	defs := append(slices.Clone(d.macros), d.defs...)
	out += strings.Join(append(append(parts, defs...), d.main), " ")
	for strings.Contains(out, "§") {
		out = strings.Replace(out, "§", lex.Digits(m.Intn(90)), 1)
	}
	return strings.ReplaceAll(out, " ; ", pick(m, " ; ", ";", " ;\n", "; // next\n "))
}

// known is what a draft may name: functions of one argument, macros of both sorts.
type known struct{ values, generics, calls, statements []string }

func (m *maker) value(k known, deep int) string {
	within := func() string { return m.value(k, deep-1) }
	if deep > 0 {
		switch kind := m.Intn(6); {
		case kind == 0:
			return "( " + within() + " + " + within() + " )"
		case kind == 1 && len(k.calls) > 0:
			return pick(m, k.calls...) + " ( " + within() + " )"
		case kind == 2 && len(k.statements) > 0:
			return pick(m, k.statements...) + " " + within() + " end"
		case kind == 3 && len(k.generics) > 0:
			return pick(m, k.generics...) + " ( " + within() + " )"
		case kind == 4:
			return "begin let t = " + within() + " ; " + m.value(known{append(slices.Clone(k.values), "t"), k.generics, k.calls, k.statements}, deep-1) + " end"
		}
	}
	return pick(m, append(slices.Clone(k.values), "§")...)
}

// draft writes a library that uses some of others.
func (m *maker) draft(name string, others []draft) draft {
	d := draft{name: name}
	var k known
	for _, o := range others {
		switch m.Intn(5) {
		case 0:
			continue
		case 1:
			d.clauses = append(d.clauses, "use "+o.name+" , prefix: "+o.name+"_ ;")
			if slices.Contains(o.exports, "c"+o.name) {
				k.values = append(k.values, o.name+"_c"+o.name)
			}
		case 2:
			if !slices.Contains(o.exports, "c"+o.name) {
				continue
			}
			d.clauses = append(d.clauses, "use "+o.name+" , import: { c"+o.name+" => d"+o.name+" } ;")
			k.values = append(k.values, "d"+o.name)
		default:
			d.clauses = append(d.clauses, "use "+o.name+" ;")
			for _, x := range o.exports {
				switch x[0] {
				case 'c':
					k.values = append(k.values, x)
				case 'g':
					k.generics = append(k.generics, x)
				}
			}
			for _, x := range o.macros {
				if strings.Contains(x, "s"+o.name+" ?b") {
					k.statements = append(k.statements, "s"+o.name)
				} else {
					k.calls = append(k.calls, "m"+o.name)
				}
			}
		}
		d.uses = append(d.uses, o.name)
	}
	m.define(&d, k)
	return d
}

// define writes the definitions of a library, and its main expression.
func (m *maker) define(d *draft, k known) {
	if m.rarely(2) {
		rules := pick(m,
			"{ M ( ?e:expression ) } => { ( ?e + 1 ) }",
			"{ M ( ?e:expression ) } => { begin let t = ?e ; t + t end }",
			"{ M ( ?e:expression ) } => { ?e } ; { M ( ) } => { 2 }",
			"{ M ( ?e:expression ) } => { ( - ?e ) } { M ( ?e:body ) } => { 3 }")
		d.macros = append(d.macros, strings.ReplaceAll("define macro M "+rules+" end ;", "M", "m"+d.name))
		k.calls = append(k.calls, "m"+d.name)
	}
	if m.rarely(2) {
		d.macros = append(d.macros, fmt.Sprintf("define macro s%s { s%s ?b:body end } => { %s } end ;", d.name, d.name,
			pick(m, "begin ?b end", "if ( #t ) ?b end", "begin let t = 1 ; ?b end")))
		k.statements = append(k.statements, "s"+d.name)
	}
	c, g, class := "c"+d.name, "g"+d.name, "<"+d.name+">"
	d.defs = append(d.defs, "define constant "+c+" = "+m.value(k, 3)+" ;", "define generic "+g+" ( x ) ;")
	for range m.Intn(3) {
		d.defs = append(d.defs, fmt.Sprintf("define method %s ( x :: limited ( 0 , § ) ) %s end ;", pick(m, append(k.generics, g)...), m.value(k, 3)))
	}
	if m.rarely(2) {
		d.defs = append(d.defs, fmt.Sprintf("define class %s ( <object> ) slot r%s , init-value: %s ; end ;", class, d.name, m.value(k, 2)))
	}
	for _, x := range []string{c, g} {
		if m.Intn(3) > 0 {
			d.exports = append(d.exports, x)
		}
	}
	if m.rarely(3) {
		d.main = m.value(k, 3)
	}
}

// patch writes a patch of a library.
func (m *maker) patch(d draft) draft {
	p := draft{name: d.name, patch: true, uses: []string{d.name}}
	k := known{values: []string{"c" + d.name}, generics: []string{"g" + d.name}}
	p.defs = append(p.defs, fmt.Sprintf("define method g%s ( x ) %s end ;", d.name, m.value(k, 3)))
	return p
}

// world is drafts, their texts, and the units that these are built to.
type world struct {
	drafts []draft
	texts  []string
	units  []api.Unit
}

// world writes and builds libraries, each of which uses some of those ahead of it, and patches.
func (m *maker) world(t *testing.T) world {
	var w world
	for _, name := range libNames[:2+m.Intn(4)] {
		w.add(t, m, m.draft(name, w.drafts))
	}
	for m.rarely(2) && len(w.units) < api.MaxUnits {
		if d := pick(m, w.drafts...); !d.patch {
			w.add(t, m, m.patch(d))
		}
	}
	return w
}

func (w *world) add(t *testing.T, m *maker, d draft) {
	t.Helper()
	text := d.text(m)
	w.drafts = append(w.drafts, d)
	w.texts = append(w.texts, text)
	w.units = append(w.units, w.build(t, text))
}

// build builds a text with the interfaces of all libraries.
func (w world) build(t *testing.T, text string) api.Unit {
	t.Helper()
	var used []api.Interface
	for _, u := range w.units {
		if !u.Patch {
			used = append(used, u.Interface)
		}
	}
	u, trouble, e := library.Build(text, used)
	if e != api.OK {
		t.Fatalf("Build of %q = %v, %v", text, trouble, e)
	}
	return u
}

// sameUnits reports whether two units are the same, and were compiled against interfaces that are.
func sameUnits(a, b api.Unit) bool {
	if !slices.EqualFunc(a.Against, b.Against, library.Same) {
		return false
	}
	a.Against, b.Against = nil, nil
	return exactly(a, b)
}

func TestP6_2Apart(t *testing.T) {
	m := newMaker(21)
	changed, against := 0, 0
	for range 250 {
		w := m.world(t)
		i := m.Intn(len(w.units))
		if w.units[i].Patch {
			continue
		}
		d := w.drafts[i]
		if m.rarely(2) {
			d.defs = append(slices.Clone(d.defs), "define method g"+d.name+" ( x :: <boolean> ) § end ;")
		}
		text := d.text(m)
		now := w
		now.units = slices.Clone(w.units)
		before := world{units: w.units[:i]}
		now.units[i] = before.build(t, text)
		if !library.Same(w.units[i].Interface, now.units[i].Interface) {
			t.Fatalf("the interfaces of %q and %q are not the same", w.texts[i], text)
		}
		if !exactly(w.units[i].Library, now.units[i].Library) {
			changed++
		}
		if l, e := library.Stale(now.units); e != api.OK || len(l) > 0 {
			t.Fatalf("after the change of %q to %q Stale is %v, %v", w.texts[i], text, l, e)
		}
		for j, u := range w.units {
			if j == i || !slices.Contains(w.drafts[j].uses, d.name) {
				continue
			}
			against++
			some := now
			some.units = now.units[:max(i+1, j)]
			if u.Patch {
				some = now
			}
			if again := some.build(t, w.texts[j]); !sameUnits(u, again) {
				t.Fatalf("after the change of %q to %q the unit of %q is %+v; expected %+v", w.texts[i], text, w.texts[j], again, u)
			}
		}
	}
	if changed < 100 || against < 200 {
		t.Errorf("%d libraries were changed, %d units built again", changed, against)
	}
}

func TestP6_3Order(t *testing.T) {
	m := newMaker(31)
	count := 0
	for range 2000 {
		l := m.units()
		order, e := library.Order(l)
		if e != api.OK {
			continue
		}
		count++
		place := map[string]int{}
		var names []string
		for at, i := range order {
			place[l[i].Library.Name] = at
			names = append(names, l[i].Library.Name)
			for _, x := range l[i].Library.Uses {
				if p, is := place[x]; !is || p >= at {
					t.Fatalf("Order %v of %+v: the library %d is ahead of one that it uses", order, l, i)
				}
			}
		}
		slices.Sort(names)
		if distinct := slices.Compact(slices.Clone(names)); len(distinct) != len(order) || len(distinct) != libraries(l) {
			t.Fatalf("Order %v of %+v does not have each library once", order, l)
		}
		mixed := slices.Clone(l)
		m.Shuffle(len(mixed), func(i, j int) { mixed[i], mixed[j] = mixed[j], mixed[i] })
		other, e := library.Order(mixed)
		if e != api.OK || len(other) != len(order) {
			t.Fatalf("Order of the units in another order = %v, %v; expected one like %v", other, e, order)
		}
		p, e1 := library.Link(l)
		q, e2 := library.Link(mixed)
		if e1 != e2 || !exactly(sorted(p.Libs), sorted(q.Libs)) || !exactly(p.Main, q.Main) || len(p.Patches) != len(q.Patches) {
			t.Fatalf("Link of the units in another order = %+v, %v; expected %+v, %v", q, e2, p, e1)
		}
		// The units in the order in which the mixed ones are loaded, with the patches in between.
		var loaded []api.Unit
		var want []int
		for _, i := range other {
			for m.rarely(3) {
				loaded = append(loaded, mixed[i])
				last := len(loaded) - 1
				loaded[last] = unit(mixed[i].Library.Name + "!")
			}
			want = append(want, len(loaded))
			loaded = append(loaded, mixed[i])
		}
		if got, e := library.Order(loaded); len(loaded) <= api.MaxUnits && (e != api.OK || !slices.Equal(got, want)) {
			t.Fatalf("Order of units that are in order = %v, %v; expected %v", got, e, want)
		}
	}
	if count < 800 {
		t.Errorf("only %d units have an order", count)
	}
}

// libraries returns how many units are no patches.
func libraries(l []api.Unit) int {
	n := 0
	for _, u := range l {
		if !u.Patch {
			n++
		}
	}
	return n
}

func sorted(l []api.Library) []api.Library {
	return slices.SortedFunc(slices.Values(l), func(a, b api.Library) int { return strings.Compare(a.Name, b.Name) })
}

func TestP6_4Linked(t *testing.T) {
	m := newMaker(41)
	linked := 0
	for range 250 {
		w := m.world(t)
		l := slices.Clone(w.units)
		m.Shuffle(len(l), func(i, j int) { l[i], l[j] = l[j], l[i] })
		if stale, e := library.Stale(l); e != api.OK || len(stale) > 0 {
			t.Fatalf("Stale of units that were built = %v, %v", stale, e)
		}
		mains := 0
		for i := range l {
			if len(l[i].Main) > 0 {
				mains++
			}
		}
		p, e := library.Link(l)
		if want := map[bool]api.Errno{true: api.OK, false: api.ErrMain}[mains == 1]; e != want {
			t.Fatalf("Link of %q = %v; expected %v", w.texts, e, want)
		}
		if e == api.OK {
			linked++
			if len(p.Libs) != libraries(l) || len(p.Libs)+len(p.Patches) != len(l) {
				t.Fatalf("Link of %q = %+v", w.texts, p)
			}
		}
		i := m.Intn(len(l))
		if l[i].Patch {
			continue
		}
		switch u := &l[i].Interface; m.Intn(3) {
		case 0:
			u.Macros = append(slices.Clone(u.Macros), plain("more"))
		case 1:
			u.Whole.Names = u.Whole.Names[1:]
		default:
			u.Face.Names = append(slices.Clone(u.Face.Names), api.Export{Name: "more", Full: "more@a", Kind: api.DfConst})
		}
		var want []int
		for j, u := range l {
			if slices.Contains(strings.Fields(libs(u.Against)), l[i].Library.Name) {
				want = append(want, j)
			}
		}
		if stale, e := library.Stale(l); e != api.OK || !slices.Equal(stale, want) {
			t.Fatalf("Stale after a change of the interface of %s = %v, %v; expected %v", l[i].Library.Name, stale, e, want)
		}
	}
	if linked < 30 {
		t.Errorf("only %d programs were linked", linked)
	}
}

// TestP6_4Loop: units that use each other are built in turn, and are not stale, but cannot be linked.
func TestP6_4Loop(t *testing.T) {
	textA, textB := "library a; use b, import: { k => j }; export f; define generic f (x);", "library b; use a, import: { f => g }; export k; define constant k = 1;"
	var a, b api.Unit
	a = built(t, "library a; export f; define generic f (x);")
	for range 4 {
		b = built(t, textB, a)
		a = built(t, textA, b)
	}
	b = built(t, textB, a)
	// Interfaces have only the full names of those that were used: so both stay as they are after a turn.
	if l, e := library.Stale([]api.Unit{a, b}); e != api.OK || len(l) > 0 {
		t.Errorf("Stale = %v, %v", l, e)
	}
	if p, e := library.Link([]api.Unit{a, b}); e != api.ErrLoop || !isZero(p) {
		t.Errorf("Link = %v", e)
	}
	if l, e := library.Depends([]api.Unit{a, b}, "a"); e != api.OK || !slices.Equal(l, []string{"a", "b"}) {
		t.Errorf("Depends = %v, %v", l, e)
	}
}

// TestP6_5Front: Front of a text without macros is ParseTokens of Scan.
func TestP6_5Front(t *testing.T) {
	m := newMaker(51)
	right := 0
	for range 1500 {
		d := draft{name: "x", clauses: []string{pick(m, "use a ;", "use b ;", "use a , prefix: p ;", "")}}
		if d.patch = m.rarely(5); d.patch {
			d.clauses = nil
		}
		k := known{values: []string{"y", "z"}, generics: []string{"f", "ma"}, calls: []string{"h"}}
		m.define(&d, k)
		d.macros = nil
		if d.patch {
			d.exports, d.main = nil, ""
		}
		text := d.text(m)
		if m.rarely(4) {
			l := strings.Split(text, " ")
			l[m.Intn(len(l))] = pick(m, l...)
			text = strings.Join(l, " ")
		}
		if strings.Contains(text, "mx") || strings.Contains(text, "sx") {
			continue // calls of macros that are left out
		}
		used := []api.Interface{bare("b"), with("c", "f ma z*")}
		s, own, _, e := library.Front(text, used)
		tokens, _, _ := lex.Scan(text)
		want, _, wantE := syntax.ParseTokens(tokens)
		if wantE == api.OK && (e != api.OK || len(own) > 0) {
			t.Fatalf("Front of %q = %v", text, e)
		}
		if e != api.OK || wantE != api.OK {
			continue
		}
		right++
		if !exactly(s, want) {
			t.Fatalf("Front of %q = %s; expected %s", text, printed(s), printed(want))
		}
	}
	if right < 300 {
		t.Errorf("only %d texts were right", right)
	}
}

// expansion returns an expression with calls of the macros add, twice and both, and the one with their expansions.
func (m *maker) expansion(deep int) (string, string) {
	if deep == 0 {
		x := pick(m, "x", "y", "1", "f(y)")
		return x, x
	}
	a, b := m.expansion(deep - 1)
	switch m.Intn(6) {
	case 0:
		return "add(" + a + ")", "(" + b + " + 1)"
	case 1:
		return "twice(" + a + ")", "begin " + b + "; " + b + " end"
	case 2:
		c, d := m.expansion(deep - 1)
		return "both(" + a + ", " + c + ")", "if (" + b + ") (" + d + " * 2) else #f end"
	case 3:
		return "f(" + a + ")", "f(" + b + ")"
	case 4:
		return "begin let x = " + a + "; x end", "begin let x = " + b + "; x end"
	}
	return "(- " + a + ")", "(- " + b + ")"
}

// TestP6_5Expansion: a text in which calls are written as their expansions has the same source.
func TestP6_5Expansion(t *testing.T) {
	m := newMaker(52)
	macros := `define macro add { add(?e:expression) } => { (?e + 1) } end;
define macro twice { twice(?e:expression) } => { begin ?e; ?e end } end;
define macro both { both(?a:expression, ?b:expression) } => { if (?a) (?b * 2) else #f end } end; `
	lib := built(t, "library u; "+macros)
	for range 1000 {
		a, b := m.expansion(1 + m.Intn(4))
		c, d := m.expansion(m.Intn(3))
		frame := "define method f (x) %s end; define constant k = %s; %s"
		want, own, _, e := library.Front("library x; use u; "+fmt.Sprintf(frame, b, d, b), nil)
		if e != api.OK || len(own) != 0 {
			t.Fatalf("Front of %q = %v", b, e)
		}
		for _, front := range []string{"library x; use u; " + macros, "library x; use u; "} {
			s, _, trouble, e := library.Front(front+fmt.Sprintf(frame, a, c, a), []api.Interface{lib.Interface})
			if e != api.OK || !exactly(s, want) {
				t.Fatalf("Front of %q and %q = %s, %v, %v; expected %s", a, c, printed(s), trouble, e, printed(want))
			}
		}
	}
	// Free names of a template are global ones (chapter 4).
	call, _, _, _ := library.Front("library x; define macro m { m(?e:expression) } => { f(?e) } end; m(f)", nil)
	written, _, _, _ := library.Front("library x; f(f)", nil)
	if got := strings.ReplaceAll(printed(call), "@0", ""); got != printed(written) || got == printed(call) {
		t.Errorf("Front of m(f) = %s", printed(call))
	}
}

// TestP6_6Macros: an own macro hides one that is used; interfaces that are not used change nothing.
func TestP6_6Macros(t *testing.T) {
	m := newMaker(61)
	hidden := 0
	for range 200 {
		w := m.world(t)
		i := len(w.units) - 1
		var used []api.Interface
		for _, u := range w.units[:i] {
			if !u.Patch {
				used = append(used, u.Interface)
			}
		}
		for _, text := range []string{w.texts[i], strings.Replace(w.texts[i], "(", "", 1), m.scrap(), "\""} {
			s, own, trouble, e := library.Front(text, used)
			u, trouble2, e2 := library.Build(text, used)
			more := slices.Insert(slices.Clone(used), m.Intn(len(used)+1), with("zz", "ma* f g* m sx*"))
			s2, own2, trouble3, e3 := library.Front(text, more)
			u2, trouble4, e4 := library.Build(text, more)
			if !exactly(s, s2) || !exactly(own, own2) || trouble != trouble3 || e != e3 || !exactly(u, u2) || trouble2 != trouble4 || e2 != e4 {
				t.Fatalf("with a further interface Build of %q = %+v, %v, %v; expected %+v, %v, %v", text, u2, trouble4, e4, u, trouble2, e2)
			}
		}
		// The macros of the text itself, with other templates, are put into the interfaces that it uses.
		own := w.units[i].Interface.Macros
		var hiding []api.Interface
		for _, x := range used {
			x.Macros = slices.Clone(x.Macros)
			for _, o := range own {
				x.Macros = append(x.Macros, api.Macro{Name: o.Name, Statement: o.Statement, Rules: []api.MacroRule{{Template: []api.Frag{token("nothing")}}}})
				hidden++
			}
			hiding = append(hiding, x)
		}
		if u, trouble, e := library.Build(w.texts[i], hiding); e != api.OK || !sameButAgainst(u, w.units[i]) {
			t.Fatalf("with macros that are hidden Build of %q = %+v, %v, %v; expected %+v", w.texts[i], u, trouble, e, w.units[i])
		}
	}
	if hidden < 100 {
		t.Errorf("only %d macros were hidden", hidden)
	}
}

func sameButAgainst(a, b api.Unit) bool {
	a.Against, b.Against = nil, nil
	return exactly(a, b)
}

func TestP6_7Depends(t *testing.T) {
	m := newMaker(71)
	within, without := 0, 0
	for range 3000 {
		l := m.units()
		names := map[string][]string{}
		for _, u := range l {
			if u.Patch {
				continue
			}
			d, e := library.Depends(l, u.Library.Name)
			if e != api.OK {
				names = nil
				break
			}
			names[u.Library.Name] = d
		}
		if names == nil {
			continue
		}
		itself := false
		for name, d := range names {
			itself = itself || slices.Contains(d, name)
			if !slices.IsSorted(d) || len(slices.Compact(slices.Clone(d))) != len(d) {
				t.Fatalf("Depends of %s = %v", name, d)
			}
			var want []string
			for _, u := range l {
				if !u.Patch && u.Library.Name == name {
					want = append(want, u.Library.Uses...)
					for _, x := range u.Library.Uses {
						want = append(want, names[x]...)
					}
				}
			}
			slices.Sort(want)
			if !slices.Equal(slices.Compact(want), d) {
				t.Fatalf("Depends of %s = %v; expected %v", name, d, want)
			}
		}
		_, e := library.Order(l)
		if (e == api.ErrLoop) != itself {
			t.Fatalf("Order has the error %v, Depends is %v", e, names)
		}
		if itself {
			within++
		} else {
			without++
		}
	}
	if within < 300 || without < 300 {
		t.Errorf("%d units with a loop, and %d without one", within, without)
	}
}

func TestP6_8Interfaces(t *testing.T) {
	m := newMaker(81)
	var all []api.Interface
	for range 25 {
		w := m.world(t)
		for _, u := range w.units {
			if e := library.CheckUnit(u); e != api.OK {
				t.Fatalf("CheckUnit of %+v = %v", u, e)
			}
			if u.Patch {
				continue
			}
			if e := library.Check(u.Interface); e != api.OK {
				t.Fatalf("Check of %+v = %v", u.Interface, e)
			}
			moved := u.Interface
			moved.Macros = marked(moved.Macros)
			all = append(all, u.Interface, moved)
		}
	}
	classes := map[string]int{}
	for i, a := range all {
		classes[bareText(a)]++
		for j, b := range all {
			if is := library.Same(a, b); is != (bareText(a) == bareText(b)) {
				t.Fatalf("Same of the interfaces %d and %d is %v:\n%+v\n%+v", i, j, is, a, b)
			}
		}
	}
	if len(classes) < 20 || len(classes) > len(all)/2 {
		t.Errorf("%d interfaces have %d classes", len(all), len(classes))
	}
}

// TestP6_8Compile: the units of any sources are valid.
func TestP6_8Compile(t *testing.T) {
	m := newMaker(82)
	count := 0
	for range 1500 {
		s, own, _, e := library.Front(m.scrap(), nil)
		if e != api.OK {
			continue
		}
		s.Patch = m.rarely(4)
		if s.Patch {
			s.Name, s.Uses, s.Main, own = "v", nil, nil, nil
		}
		used := []api.Interface{bare("u"), with("w", "m n"), bare("v")}
		u, e := library.Compile(s, own, used)
		if e != api.OK {
			continue
		}
		count++
		if library.CheckUnit(u) != api.OK || !s.Patch && library.Check(u.Interface) != api.OK || u.Patch != s.Patch {
			t.Fatalf("Compile of %s = %+v", printed(s), u)
		}
	}
	if count < 100 {
		t.Errorf("only %d sources were compiled", count)
	}
}
