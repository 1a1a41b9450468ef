package macro_test

import (
	"math"
	"math/rand"
	"slices"
	"strings"
	"testing"
	"unsafe"

	"skerry/api"
	"skerry/fragment"
	"skerry/lex"
	"skerry/macro"
)

// expanded calls f with n random lists that are expanded without an error, most of them with calls.
func expanded(t *testing.T, seed int64, n int, f func(r *maker, l, now []api.Frag, x []api.Expansion)) {
	t.Helper()
	rnd := rand.New(rand.NewSource(seed))
	steps := 0
	for left := n; left > 0; {
		r := newMaker(rnd)
		l := r.list(3)
		now, x, _, e := macro.With(r.macros, l)
		if e != api.OK || len(x) == 0 && rnd.Intn(10) > 0 {
			continue
		}
		f(r, l, now, x)
		steps += len(x)
		left--
	}
	if steps < n {
		t.Errorf("there were only %d expansions", steps)
	}
}

func TestP3_2Replayed(t *testing.T) {
	expanded(t, 11, 2000, func(r *maker, l, now []api.Frag, x []api.Expansion) {
		replay := func(x []api.Expansion) bool {
			again, _, e := macro.Replay(r.macros, l, x)
			return e == api.OK && exactly(again, now)
		}
		if !replay(x) {
			t.Fatalf("Replay of %s, for %s with %s, is not what With returns", showExpansions(x), show(l), showMacros(r.macros))
		}
		if len(x) == 0 {
			return
		}
		i := r.Intn(len(x))
		rule, at := slices.Clone(x), slices.Clone(x)
		rule[i].Rule += r.Intn(5)*2 - 3
		at[i].At += r.Intn(5)*2 - 3
		if replay(rule) || replay(at) || replay(x[1:]) {
			t.Fatalf("Replay of %s, with %s, returns the same with other expansions than %s", show(l), showMacros(r.macros), showExpansions(x))
		}
	})
}

func TestP3_3Done(t *testing.T) {
	expanded(t, 12, 2000, func(r *maker, l, now []api.Frag, x []api.Expansion) {
		if n := macro.Calls(r.macros, now); n != 0 {
			t.Fatalf("With of %s, with %s, = %s, where there are %d calls", show(l), showMacros(r.macros), show(now), n)
		}
		again, y, at, e := macro.With(r.macros, now)
		if !exactly(again, now) || len(y) != 0 || at != 0 || e != api.OK {
			t.Fatalf("With of %s, without calls, = %s, %s, %d, %v", show(now), show(again), showExpansions(y), at, e)
		}
		if macro.Calls(r.macros, l) == 0 && (!exactly(now, l) || len(x) != 0) {
			t.Fatalf("With of %s, without calls, = %s, %s", show(l), show(now), showExpansions(x))
		}
		again, y, at, e = macro.Expand(l)
		if !exactly(again, l) || len(y) != 0 || at != 0 || e != api.OK {
			t.Fatalf("Expand of %s = %s, %s, %d, %v", show(l), show(again), showExpansions(y), at, e)
		}
	})
}

func TestP3_4Marks(t *testing.T) {
	marked := 0
	expanded(t, 13, 2000, func(r *maker, l, now []api.Frag, x []api.Expansion) {
		before := fragment.Flat(l)
		for _, k := range fragment.Flat(now) {
			from := before
			if k.Mark > 0 {
				marked++
				y := x[k.Mark-1]
				m := r.macros[slices.IndexFunc(r.macros, func(m api.Macro) bool { return m.Name == y.Macro })]
				from = fragment.Flat(m.Rules[y.Rule].Template)
			}
			if !slices.ContainsFunc(from, func(u api.Token) bool {
				return k.Kind != api.TkPat && k.Kind == u.Kind && k.Text == u.Text && (k.Mark > 0 || k.At == u.At)
			}) {
				t.Fatalf("With of %s, with %s, = %s: where is %v from?", show(l), showMacros(r.macros), show(now), k)
			}
		}
	})
	if marked < 2000 {
		t.Errorf("only %d tokens were marked", marked)
	}
}

// renamed returns a list in which a name is replaced by another one.
func renamed(l []api.Frag, from, to string) []api.Frag {
	var out []api.Frag
	for _, f := range l {
		if f.Tok.Kind == api.TkName && f.Tok.Text == from {
			f.Tok.Text = to
		}
		f.Kids = renamed(f.Kids, from, to)
		out = append(out, f)
	}
	return out
}

// occurs reports whether a name occurs in the patterns and templates of macros.
func occurs(macros []api.Macro, name string) bool {
	in := func(l []api.Frag) bool {
		return slices.ContainsFunc(fragment.Flat(l), func(t api.Token) bool { return t.Text == name })
	}
	return slices.ContainsFunc(macros, func(m api.Macro) bool {
		return slices.ContainsFunc(m.Rules, func(r api.MacroRule) bool { return in(r.Pattern) || in(r.Template) })
	})
}

func TestP3_5Renaming(t *testing.T) {
	tried := 0
	expanded(t, 14, 3000, func(r *maker, l, now []api.Frag, x []api.Expansion) {
		for _, name := range []string{"a", "b", "c", "x", "y"} {
			if occurs(r.macros, name) {
				continue
			}
			tried++
			to := []string{"new", "v0", "all", "<z>", "define", "slots"}[r.Intn(6)]
			got, y, _, e := macro.With(r.macros, renamed(l, name, to))
			if e != api.OK || !exactly(got, renamed(now, name, to)) || len(y) != len(x) {
				t.Fatalf("With of %s, with %s, = %s; with %s for %s it is %s, %v", show(l), showMacros(r.macros), show(now), to, name, show(got), e)
			}
		}
	})
	if tried < 500 {
		t.Errorf("only %d names were tried", tried)
	}
}

// shifted returns a list whose marks other than 0 are greater by n.
func shifted(l []api.Frag, n int) []api.Frag {
	var out []api.Frag
	for _, f := range l {
		if f.Tok.Mark > 0 {
			f.Tok.Mark += n
		}
		f.Kids = shifted(f.Kids, n)
		out = append(out, f)
	}
	return out
}

func TestP3_6OneAfterTheOther(t *testing.T) {
	tried := 0
	expanded(t, 15, 3000, func(r *maker, a, nowA []api.Frag, x []api.Expansion) {
		b := r.list(2)
		nowB, y, _, e := macro.With(r.macros, b)
		if e != api.OK || len(nowA) > 0 && slices.Contains([]string{"f", "g"}, nowA[len(nowA)-1].Tok.Text) {
			return
		}
		tried++
		now, z, at, e := macro.With(r.macros, slices.Concat(a, b))
		want := slices.Clone(x)
		for _, one := range y {
			one.Mark += len(x)
			one.At += fragment.Size(nowA)
			one.Binds = slices.Clone(one.Binds)
			for i, b := range one.Binds {
				one.Binds[i].Frags = shifted(b.Frags, len(x))
			}
			want = append(want, one)
		}
		if !exactly(now, append(nowA, shifted(nowB, len(x))...)) || !equalExpansions(z, want) || at != 0 || e != api.OK {
			t.Fatalf("With of %s and %s, with %s, = %s, %s, %v; of each = %s, %s", show(a), show(b), showMacros(r.macros), show(now), showExpansions(z), e, show(nowA), show(nowB))
		}
	})
	if tried < 1500 {
		t.Errorf("only %d pairs were tried", tried)
	}
	// The first result ends with the name of a function macro, and so there is one more call.
	macros := define(t, "define macro f { f(?a:body) } => { 1 } end;")
	if l, _, _, _ := macro.With(macros, read(t, "f (x)")); show(l) != "1'1" {
		t.Errorf("With = %s", show(l))
	}
}

// placed returns a pattern in which variables are replaced by what they took.
func placed(pattern []api.Frag, binds []api.MacroBind) []api.Frag {
	var out []api.Frag
	for _, f := range pattern {
		if name, kind := lex.Pattern(f.Tok); kind != "" {
			i := slices.IndexFunc(binds, func(b api.MacroBind) bool { return b.Name == name })
			out = append(out, binds[i].Frags...)
			continue
		}
		f.Kids = placed(f.Kids, binds)
		out = append(out, f)
	}
	return out
}

// part reports whether fragments stand one behind the other in a list, or in one within it.
func part(l, of []api.Frag) bool {
	for i := 0; i+len(l) <= len(of); i++ {
		if exactly(l, of[i:i+len(l)]) {
			return true
		}
	}
	return slices.ContainsFunc(of, func(f api.Frag) bool { return part(l, f.Kids) })
}

func TestP3_7Matching(t *testing.T) {
	rnd := rand.New(rand.NewSource(16))
	matched, plain := 0, 0
	for range 10000 {
		r := &maker{Rand: rnd}
		var names []string
		pattern := r.pattern(3, &names)
		l := r.instance(pattern, 2)
		binds, is, e := macro.Match(pattern, l)
		if e != api.OK {
			t.Fatalf("Match of %s and %s = %v", show(pattern), show(l), e)
		}
		if is {
			matched++
			if again := placed(pattern, binds); !fragment.Same(again, l) {
				t.Fatalf("Match of %s and %s = %s, which would be of %s", show(pattern), show(l), showBinds(binds), show(again))
			}
			for i, b := range binds {
				if b.Name != names[i] || !part(b.Frags, l) {
					t.Fatalf("Match of %s and %s = %s", show(pattern), show(l), showBinds(binds))
				}
			}
		}
		// What has no variables is a pattern that matches the same list alone.
		without := r.instance(pattern, 2)
		if r.Intn(2) == 0 {
			without = slices.Clone(l)
			if len(without) > 0 && r.Intn(2) == 0 {
				without[r.Intn(len(without))] = r.token()
			}
		}
		if _, is, e := macro.Match(without, l); e != api.OK || is != fragment.Same(without, l) {
			t.Fatalf("Match of %s and %s = %v, %v", show(without), show(l), is, e)
		} else if is {
			plain++
		}
	}
	if matched < 2000 || plain < 2000 {
		t.Errorf("there were %d and %d matches", matched, plain)
	}
}

func TestP3_8Definitions(t *testing.T) {
	rule := []api.MacroRule{{Pattern: read(t, "?a:body"), Template: read(t, "[?a]")}}
	expanded(t, 17, 2000, func(r *maker, l, now []api.Frag, x []api.Expansion) {
		others := slices.Clone(r.macros)
		r.Shuffle(len(others), func(i, j int) { others[i], others[j] = others[j], others[i] })
		for i, name := range []string{"h", "a2", "end1", "<w>"} {
			if r.Intn(2) == 0 {
				others = slices.Insert(others, r.Intn(len(others)+1), api.Macro{Name: name, Statement: i%2 == 0, Rules: rule})
			}
		}
		got, y, at, e := macro.With(others, l)
		if !exactly(got, now) || !equalExpansions(x, y) || at != 0 || e != api.OK {
			t.Fatalf("With of %s, with %s, = %s; with %s it is %s, %v", show(l), showMacros(r.macros), show(now), showMacros(others), show(got), e)
		}
	})
}

func TestP3_9Unmark(t *testing.T) {
	var remark func(r *maker, l []api.Frag) []api.Frag
	remark = func(r *maker, l []api.Frag) []api.Frag {
		out := slices.Clone(l)
		for i := range out {
			out[i].Tok.Mark = []int{0, 1, 2, 1000, math.MaxInt}[r.Intn(5)]
			out[i].Kids = remark(r, out[i].Kids)
		}
		return out
	}
	expanded(t, 18, 2000, func(r *maker, l, now []api.Frag, x []api.Expansion) {
		got, y, at, e := macro.With(r.macros, remark(r, l))
		if e != api.OK || at != 0 || len(y) != len(x) || !exactly(macro.Unmark(got), macro.Unmark(now)) {
			t.Fatalf("With of %s, with %s, = %s; with other marks it is %s, %v", show(l), showMacros(r.macros), show(now), show(got), e)
		}
		for _, k := range fragment.Flat(macro.Unmark(got)) {
			if k.Mark != 0 {
				t.Fatalf("Unmark of %s leaves a mark", show(got))
			}
		}
	})
}

// TestP3_9ReadRandom: Read has a group for each name of a statement macro, and nothing else differs from reading without words.
func TestP3_9ReadRandom(t *testing.T) {
	rnd := rand.New(rand.NewSource(19))
	for range 1000 {
		r := newMaker(rnd)
		text := "define macro w { w ?a:body end } => { ?a } end; define macro u { u end } => { } { u x end } => { } end; "
		body := strings.NewReplacer("?", "").Replace(fragment.Text(r.list(3)))
		l, at, e := macro.Read(scan(t, text+body))
		if e != api.OK {
			t.Fatalf("Read of %q = %d, %v", text+body, at, e)
		}
		groups := 0
		var count func(l []api.Frag)
		count = func(l []api.Frag) {
			for _, f := range l {
				if f.Open == "w" || f.Open == "u" {
					groups++
				} else if f.Open == "" && (f.Tok.Text == "w" || f.Tok.Text == "u") {
					t.Fatalf("Read of %q has a token %s", text+body, f.Tok.Text)
				}
				count(f.Kids)
			}
		}
		count(l[6:])
		want := 0
		for _, s := range strings.Fields(body) {
			if s == "w" || s == "u" {
				want++
			}
		}
		if groups != want {
			t.Fatalf("Read of %q has %d groups; expected %d", text+body, groups, want)
		}
	}
}

// memory collects the memory of slices, and reports those that overlap.
type memory struct {
	t    *testing.T
	what string
	from []uintptr
	to   []uintptr
}

func add[T any](m *memory, l []T) {
	if cap(l) == 0 {
		return
	}
	from := uintptr(unsafe.Pointer(unsafe.SliceData(l)))
	to := from + uintptr(cap(l))*unsafe.Sizeof(*new(T))
	for i := range m.from {
		if from < m.to[i] && m.from[i] < to {
			m.t.Fatalf("%s: two slices share memory", m.what)
		}
	}
	m.from, m.to = append(m.from, from), append(m.to, to)
}

func (m *memory) frags(l []api.Frag) {
	add(m, l)
	for _, f := range l {
		m.frags(f.Kids)
	}
}

func (m *memory) binds(l []api.MacroBind) {
	add(m, l)
	for _, b := range l {
		m.frags(b.Frags)
	}
}

func (m *memory) expansions(l []api.Expansion) {
	add(m, l)
	for _, x := range l {
		m.binds(x.Binds)
	}
}

func (m *memory) macros(l []api.Macro) {
	add(m, l)
	for _, x := range l {
		add(m, x.Rules)
		for _, r := range x.Rules {
			m.frags(r.Pattern)
			m.frags(r.Template)
		}
	}
}

// TestP3_1ResultsAreNew: no two slices of arguments and results share memory, and arguments are not changed.
func TestP3_1ResultsAreNew(t *testing.T) {
	const text = "x; define macro m { m(?a:body; ?b:body) } => { [?a (?b ?a)] ?b } end; define macro w { w ?c:name (?d:body) end } => { ?d m(?d; ?c) } end; m(w f (x (y)) end y; (z)) [w g () end]"
	macros := define(t, text)
	_, rest, _, _ := macro.Define(read(t, text))
	binds, _, _ := macro.Match(macros[0].Rules[0].Pattern, read(t, "x (y) z; (u)"))
	_, x, _, e := macro.With(macros, rest)
	if len(macros) != 2 || len(binds) != 2 || len(x) != 7 || e != api.OK {
		t.Fatalf("With = %s, %v", showExpansions(x), e)
	}
	for what, call := range map[string]func(m *memory, l []api.Frag){
		"Define": func(m *memory, l []api.Frag) {
			all := read(t, text)
			m.frags(all)
			macros, rest, _, _ := macro.Define(all)
			m.macros(macros)
			m.frags(rest)
		},
		"Match": func(m *memory, l []api.Frag) {
			m.frags(macros[0].Rules[0].Pattern)
			pattern := read(t, "x ; ?a:body m ?b:token ?c:body")
			args := read(t, "x ; m (y) m z (u)")
			m.frags(pattern)
			m.frags(args)
			binds, _, _ := macro.Match(pattern, args)
			m.binds(binds)
		},
		"Fill": func(m *memory, l []api.Frag) {
			m.binds(binds)
			filled, _ := macro.Fill(macros[0].Rules[0].Template, binds, 1)
			m.frags(filled)
		},
		"Once": func(m *memory, l []api.Frag) {
			now, x, _, _ := macro.Once(macros, l, 1)
			m.frags(now)
			m.binds(x.Binds)
		},
		"Once without a call": func(m *memory, l []api.Frag) {
			now, _, _, _ := macro.Once(nil, l, 1)
			m.frags(now)
		},
		"Expand": func(m *memory, l []api.Frag) {
			all := read(t, text)
			m.frags(all)
			now, x, _, _ := macro.Expand(all)
			m.frags(now)
			m.expansions(x)
		},
		"With": func(m *memory, l []api.Frag) {
			now, x, _, _ := macro.With(macros, l)
			m.frags(now)
			m.expansions(x)
		},
		"With without macros": func(m *memory, l []api.Frag) {
			now, _, _, _ := macro.With(nil, l)
			m.frags(now)
		},
		"Replay": func(m *memory, l []api.Frag) {
			m.expansions(x)
			now, _, _ := macro.Replay(macros, l, x)
			m.frags(now)
		},
		"Replay of nothing": func(m *memory, l []api.Frag) {
			now, _, _ := macro.Replay(macros, l, nil)
			m.frags(now)
		},
		"Unmark": func(m *memory, l []api.Frag) { m.frags(macro.Unmark(l)) },
		"Calls":  func(m *memory, l []api.Frag) { macro.Calls(macros, l) },
	} {
		beforeMacros, beforeBinds, beforeX, before := showMacros(macros), showBinds(binds), showExpansions(x), show(rest)
		m := &memory{t: t, what: what}
		m.macros(macros)
		m.frags(rest)
		if what == "Match" {
			m.from, m.to = nil, nil
		}
		call(m, rest)
		if showMacros(macros) != beforeMacros || showBinds(binds) != beforeBinds || showExpansions(x) != beforeX || show(rest) != before {
			t.Errorf("%s changes its arguments", what)
		}
	}
}

// wild returns random fragments, many of which are not those of chapter 2.
func wild(rnd *rand.Rand, n int) []api.Frag {
	var out []api.Frag
	for range rnd.Intn(4) {
		texts := []string{"f", "w", "define", "macro", "{", "=>", "(", "[", "end", ";", ",", "x", "1", "?a", "?a:name", "?b:body", "?c:expression", "begin", "", "\n"}
		text := texts[rnd.Intn(len(texts))]
		f := api.Frag{Tok: api.Token{Kind: lex.Kind(text), Text: text}}
		switch rnd.Intn(12) {
		case 0:
			f.Tok.Kind = rnd.Intn(9) - 1
		case 1:
			f.Tok.Num, f.Tok.At, f.Tok.Mark = rnd.Intn(3)-1, rnd.Intn(3)-1, rnd.Intn(3)-1
		case 2:
			f.Open = texts[rnd.Intn(len(texts))]
		}
		if rnd.Intn(2) == 0 {
			f.Open = text
		}
		if n > 0 && (f.Open != "" || rnd.Intn(10) == 0) {
			f.Kids = wild(rnd, n-1)
		}
		out = append(out, f)
	}
	return out
}

// TestP3_1AnyArguments: no function panics, or changes its arguments, whatever these are; calls have the same results again.
func TestP3_1AnyArguments(t *testing.T) {
	rnd := rand.New(rand.NewSource(99))
	names := []string{"f", "w", "g", "", "end"}
	numbers := []int{math.MinInt, -1, 0, 1, 2, math.MaxInt}
	right := map[string]int{}
	for range 20000 {
		var macros []api.Macro
		for range rnd.Intn(3) {
			m := api.Macro{Name: names[rnd.Intn(len(names))], Statement: rnd.Intn(2) == 0}
			for range rnd.Intn(3) {
				m.Rules = append(m.Rules, api.MacroRule{Pattern: wild(rnd, 1), Template: wild(rnd, 1)})
			}
			macros = append(macros, m)
		}
		l, pattern, mark := wild(rnd, 3), wild(rnd, 2), numbers[rnd.Intn(len(numbers))]
		before := show(l) + showMacros(macros) + show(pattern)
		count := func(what string, e api.Errno) {
			if e == api.OK {
				right[what]++
			}
		}
		defined, _, _, e := macro.Define(l)
		count("Define", e)
		for _, m := range append(defined, macros...) {
			count("Check", macro.Check(m))
		}
		binds, _, e := macro.Match(pattern, l)
		count("Match", e)
		_, e = macro.Fill(l, append(binds, api.MacroBind{Name: "a", Frags: pattern}), mark)
		count("Fill", e)
		_, x, _, e := macro.Once(macros, l, mark)
		count("Once", e)
		_, all, _, e := macro.With(macros, l)
		count("With", e)
		macro.Expand(l)
		_, _, e = macro.Replay(macros, l, append(all, x))
		count("Replay", e)
		macro.Calls(macros, l)
		macro.Unmark(l)
		flat := fragment.Flat(l)
		again, otherAt, otherErr := macro.Read(flat)
		twice, at, e := macro.Read(flat)
		count("Read", e)
		if !exactly(again, twice) || at != otherAt || e != otherErr {
			t.Fatalf("Read of %v has two results", flat)
		}
		macro.Words(flat)
		if show(l)+showMacros(macros)+show(pattern) != before {
			t.Fatalf("arguments were changed: %s", before)
		}
	}
	for _, what := range []string{"Define", "Check", "Match", "Fill", "Once", "With", "Read"} {
		if right[what] < 100 {
			t.Errorf("%s had only %d right arguments: %v", what, right[what], right)
		}
	}
	// A token with Kids that contain themselves is no fragment.
	round := make([]api.Frag, 1)
	round[0] = api.Frag{Tok: api.Token{Kind: api.TkName, Text: "x"}, Kids: round}
	macros := define(t, some)
	macro.Unmark(round)
	macro.Match(round, round)
	macro.Fill(round, nil, 1)
	macro.With(macros, round)
	macro.Check(api.Macro{Name: "m", Rules: []api.MacroRule{{Pattern: round, Template: round}}})
}

// TestP3_1Again: the same call has the same results at all times.
func TestP3_1Again(t *testing.T) {
	expanded(t, 20, 300, func(r *maker, l, now []api.Frag, x []api.Expansion) {
		for range 3 {
			got, y, _, e := macro.With(r.macros, l)
			if e != api.OK || !exactly(got, now) || !equalExpansions(x, y) {
				t.Fatalf("With of %s, with %s, = %s, and then %s", show(l), showMacros(r.macros), show(now), show(got))
			}
		}
	})
}
