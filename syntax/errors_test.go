package syntax_test

import (
	"math/rand"
	"slices"
	"testing"

	"skerry/api"
	"skerry/lex"
	"skerry/syntax"
)

// parses parses tokens by a rule of the grammar, and returns the error alone.
func parses(rule symbol, l []api.Token) (int, api.Errno) {
	var at int
	var e api.Errno
	switch rule {
	case "source":
		_, at, e = syntax.ParseTokens(l)
	case "expr":
		_, at, e = syntax.ParseExpr(l)
	case "type":
		_, at, e = syntax.ParseType(l)
	}
	return at, e
}

// damaged returns tokens of which some are removed, changed or put in.
func damaged(t *testing.T, rnd *rand.Rand, l []api.Token) []api.Token {
	pool := scan(t, "( ) { } [ , ; . = < + - * / & | ~ ? := :: => == <= #t 1 x y@l k: import: prefix: init-value: ?z "+
		"abstract begin block class cleanup constant define domain each-subclass else elseif end export generic handler if import instance? let library "+
		"limited load-patch local macro make method next-method object-class patch prefix print quotient sealed signal singleton slot subclass type-union use virtual")
	l = slices.Clone(l)
	for range rnd.Intn(3) {
		i := rnd.Intn(len(l) + 1)
		x := pool[rnd.Intn(len(pool))]
		switch rnd.Intn(3) {
		case 0:
			l = slices.Insert(l, i, x)
		case 1:
			l = slices.Delete(l, min(i, len(l)), min(i+1, len(l)))
		default:
			l = slices.Replace(l, min(i, len(l)), min(i+1, len(l)), x)
		}
	}
	return l
}

// damages calls f with many random lists of tokens of rules, most of them damaged.
func damages(t *testing.T, seed int64, n int, f func(rnd *rand.Rand, rule symbol, l []api.Token)) {
	t.Helper()
	rnd := rand.New(rand.NewSource(seed))
	w := &writer{grammar: newGrammar(), Rand: rnd, names: []string{"x", "y", "<a>", "x@1"}}
	for i := range n {
		rule := []symbol{"source", "expr", "expr", "type"}[i%4]
		f(rnd, rule, damaged(t, rnd, scan(t, w.text(rule, 60))))
	}
}

// TestP4_1Grammar compares the errors with those of the grammar of the chapter.
func TestP4_1Grammar(t *testing.T) {
	g := newGrammar()
	found := map[api.Errno]int{}
	damages(t, 1, 6000, func(rnd *rand.Rand, rule symbol, l []api.Token) {
		at, e := parses(rule, l)
		wantAt, want := g.verdict(rule, l)
		if want != api.OK && e == api.ErrParse && at < wantAt && l[at].Text == ":=" || want == api.OK && e == api.ErrParse && at < len(l) && l[at].Text == ":=" {
			found[99]++ // a tree that cannot be set: the grammar does not tell
			return
		}
		found[want]++
		if want == api.OK && at == len(l) && e == api.ErrForm || want == api.OK && at == 0 && e == api.OK {
			return
		}
		if at != wantAt || e != want {
			t.Fatalf("the %s %q has the error %d, %v; expected %d, %v", rule, lex.Join(l), at, e, wantAt, want)
		}
	})
	for _, e := range []api.Errno{api.OK, api.ErrParse, api.ErrReserve, 99} {
		if found[e] < 50 {
			t.Errorf("only %d have the error %v", found[e], e)
		}
	}
}

// TestP4_9Prefix: what stands behind an error does not matter.
func TestP4_9Prefix(t *testing.T) {
	found := map[api.Errno]int{}
	damages(t, 9, 6000, func(rnd *rand.Rand, rule symbol, l []api.Token) {
		at, e := parses(rule, l)
		if e == api.OK || e == api.ErrForm || at == len(l) {
			return
		}
		found[e]++
		for _, tail := range [][]api.Token{nil, l[:at], l, scan(t, "end end ; )"), {{}}, {{Kind: api.TkName, Text: "let"}}} {
			k := append(slices.Clone(l[:at+1]), tail...)
			if again, f := parses(rule, k); again != at || f != e {
				t.Fatalf("the %s %q has the error %d, %v; with another end, %q, it has %d, %v", rule, lex.Join(l), at, e, lex.Join(k), again, f)
			}
		}
	})
	if found[api.ErrParse] < 500 || found[api.ErrReserve] < 100 {
		t.Errorf("there were only the errors %v", found)
	}
	deep := scan(t, repeat(most, "(", "x", ")"))
	for n := most + 1; n <= len(deep); n++ {
		if at, e := parses("expr", deep[:n]); at != most || e != api.ErrDeep {
			t.Fatalf("%d tokens have the error %d, %v; expected ErrDeep", n, at, e)
		}
	}
}
