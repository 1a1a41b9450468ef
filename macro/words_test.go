package macro_test

import (
	"fmt"
	"math/rand"
	"slices"
	"strings"
	"testing"

	"skerry/api"
	"skerry/fragment"
	"skerry/lex"
	"skerry/macro"
)

// scan returns the tokens of a text.
func scan(t *testing.T, text string) []api.Token {
	t.Helper()
	l, _, e := lex.Scan(text)
	if e != api.OK {
		t.Fatalf("Scan(%.80q) = %v", text, e)
	}
	return l
}

// read returns the fragments of a text, with the words of the statement macros that it defines, and further ones.
func read(t *testing.T, text string, words ...string) []api.Frag {
	t.Helper()
	tokens := scan(t, text)
	for _, w := range macro.Words(tokens) {
		if !slices.Contains(words, w) {
			words = append(words, w)
		}
	}
	l, at, e := fragment.Read(tokens, words)
	if e != api.OK {
		t.Fatalf("Read(%.80q, %q) = %d, %v", text, words, at, e)
	}
	return l
}

// show writes fragments as the texts of their tokens, with the marks other than 0, and groups in angle quotes, without what closes them.
func show(l []api.Frag) string {
	var out []string
	for _, f := range l {
		text := f.Tok.Text
		if f.Tok.Mark != 0 {
			text += fmt.Sprintf("'%d", f.Tok.Mark)
		}
		if f.Open != "" || len(f.Kids) > 0 {
			text = strings.TrimSpace("‹"+text+" "+show(f.Kids)) + "›"
		}
		out = append(out, text)
	}
	return strings.Join(out, " ")
}

// exactly reports whether fragments are equal, Marks and Ats included.
func exactly(a, b []api.Frag) bool {
	return slices.EqualFunc(a, b, func(x, y api.Frag) bool {
		return x.Tok == y.Tok && x.Open == y.Open && exactly(x.Kids, y.Kids)
	})
}

func TestP3_1Words(t *testing.T) {
	many, most := "", []string{}
	for i := range api.MaxWords + 2 {
		w := fmt.Sprintf("w%d", i)
		many += "define macro " + w + " { " + w + " end } => { } end; "
		if i < api.MaxWords {
			most = append(most, w)
		}
	}
	for _, x := range []struct {
		text string
		want string
	}{
		{"", ""},
		{"define", ""},
		{"define macro", ""},
		{"define macro m", ""},
		{"macro m { m end }", ""},
		{"define macro m { m end }", "m"},
		{"define macro m { m end } => { x } end macro m;", "m"},
		{"define macro m { m(x) } => { end } end;", ""},
		{"define macro m { m() } => { } { m end } => { } end;", ""},
		{"define macro m { m end } => { } { m() } => { } end;", "m"},
		{"define macro m { }", ""},
		{"define macro m { end", ""},
		{"define macro m { end }", "m"},
		{"define macro m { end x }", ""},
		{"define macro m { x end", ""},
		{"define macro m } { m end }", ""},
		{"} define macro m { m end }", "m"},
		{"} } define macro m { m end } }", "m"},
		{"{ define macro m } { m end }", ""},
		{"{ define macro m { end } }", "m"},
		{"{ define macro m { x } end }", ""},
		{"define macro m x ; ( [ { m end }", "m"},
		{"define macro m { { } end }", "m"},
		{"define macro m { { end } }", ""},
		{"define macro m { { end } end }", "m"},
		{"define macro m { } end }", ""},
		{"define macro m { { x } end } }", "m"},
		{"define macro m { end: }", ""},
		{"define macro m { ?end }", ""},
		{"define macro m { end end }", "m"},
		{"define macro m ( end )", ""},
		{"define macro b { b end } define macro a { a end } define macro b { b end }", "b a"},
		{"define macro a { a() } define macro b { b end } define macro a { a end }", "b a"},
		{"define macro a define macro b { end }", "a b"},
		{"define macro a define macro b { x }", ""},
		{"define macro a { define macro b { b end } end }", "a b"},
		{"define macro a { define macro b { b end } }", "b"},
		{"define macro a { define macro b { b } end }", "a"},
		{"define macro a { define macro b end } { b end }", "a"},
		{"define macro define macro m { m end }", "define m"},
		{"define define macro m { m end }", "m"},
		{"define macro macro m { m end }", ""},
		{"define x macro m { m end }", ""},
		{"define macro begin { begin end }", ""},
		{"define macro if { if end } define macro block { end } define macro method { end } define macro class { end } define macro macro { end }", ""},
		{"define macro end { end }", ""},
		{"define macro slot { slot end }", ""},
		{"define macro slots { slots end }", "slots"},
		{"define macro <m> { <m> end }", "<m>"},
		{"define macro m@l { end }", ""},
		{"define macro m: { end }", ""},
		{"define macro ?m { end }", ""},
		{"define macro 1 { end }", ""},
		{"define macro #t { end }", ""},
		{"define macro ( { end }", ""},
		{"define: macro m { end }", ""},
		{"define macro: m { end }", ""},
		{many, strings.Join(most, " ")},
		{many + "define macro w0 { w0 end }", strings.Join(most, " ")},
	} {
		if got := strings.Join(macro.Words(scan(t, x.text)), " "); got != x.want {
			t.Errorf("Words of %.100q = %q; expected %q", x.text, got, x.want)
		}
	}
	if l := macro.Words(nil); len(l) != 0 {
		t.Errorf("Words of nothing = %q", l)
	}
}

// TestP3_1WordsKinds: tokens of other kinds, with the Texts of those that matter, do not count.
func TestP3_1WordsKinds(t *testing.T) {
	l := scan(t, "define macro m { m end }")
	for i, kind := range []int{api.TkKey, api.TkSign, api.TkPat, api.TkName, 0, api.TkKey, api.TkName} {
		changed := slices.Clone(l)
		changed[i].Kind = kind
		want := 0
		if i == 4 { // the m within the braces does not matter
			want = 1
		}
		if got := macro.Words(changed); len(got) != want {
			t.Errorf("Words, with the kind %d of the token %d, = %q", kind, i, got)
		}
	}
	long := slices.Repeat(scan(t, "define macro m { m"), 200000)
	if got := macro.Words(append(long, scan(t, "end } end }")...)); !slices.Equal(got, []string{"m"}) {
		t.Errorf("Words of many tokens = %q", got)
	}
}

// slowWords is Words, word by word of its description.
func slowWords(l []api.Token) []string {
	name := func(i int, s string) bool { return l[i].Kind == api.TkName && l[i].Text == s }
	brace := func(i int, s string) bool { return l[i].Kind == api.TkSign && l[i].Text == s }
	var out []string
	for i := 2; i < len(l); i++ {
		if !name(i-2, "define") || !name(i-1, "macro") || !name(i, l[i].Text) || !lex.IsPlain(l[i].Text) {
			continue
		}
		if slices.Contains(append(fragment.Words(), "end", "slot"), l[i].Text) || slices.Contains(out, l[i].Text) {
			continue
		}
		open := 0
		for j := i + 1; j < len(l); j++ {
			if brace(j, "{") {
				open++
			}
			if brace(j, "}") {
				open--
				if open < 0 {
					break
				}
				if open == 0 {
					if name(j-1, "end") && len(out) < api.MaxWords {
						out = append(out, l[i].Text)
					}
					break
				}
			}
		}
	}
	return out
}

func TestP3_1WordsRandom(t *testing.T) {
	rnd := rand.New(rand.NewSource(1))
	vocabulary := []string{"define macro", "define macro a", "define macro b", "{", "}", "{", "}", "end }", "end", "x", "begin", "define", "macro", "end:"}
	found := map[int]int{}
	for range 30000 {
		var words []string
		for range rnd.Intn(16) {
			words = append(words, vocabulary[rnd.Intn(len(vocabulary))])
		}
		l := scan(t, strings.Join(words, " "))
		want := slowWords(l)
		if got := macro.Words(l); !slices.Equal(got, want) {
			t.Fatalf("Words of %q = %q; expected %q", words, got, want)
		}
		found[len(want)]++
	}
	if found[1] < 800 || found[2] < 100 {
		t.Errorf("so many words were found: %v", found)
	}
}

func TestP3_9Read(t *testing.T) {
	for _, x := range []struct{ text, want string }{
		{"", ""},
		{"w a end", "error 20 at 2"},
		{"define macro w { w ?a:body end } => { } end; w a end", "define ‹macro w ‹{ ‹w ?a:body›› => ‹{›› ; ‹w a›"},
		{"w a end; define macro w { w ?a:body end } => { } end;", "‹w a› ; define ‹macro w ‹{ ‹w ?a:body›› => ‹{›› ;"},
		{"define macro f { f(?a:body) } => { } end; f(f(1))", "define ‹macro f ‹{ f ‹( ?a:body›› => ‹{›› ; f ‹( f ‹( 1››"},
		{"define macro v { v end } => { w v end end } end; define macro w { w v end end } => { } end; f(v w end end)", "define ‹macro v ‹{ ‹v›› => ‹{ ‹w ‹v›››› ; define ‹macro w ‹{ ‹w ‹v››› => ‹{›› ; f ‹( ‹v ‹w›››"},
		{"define macro w { w end } => { } end macro w; (w)", "error 20 at 16"},
		{"define macro w { w end } => { } end macro w; w", "error 21 at 14"},
	} {
		l := scan(t, x.text)
		got, at, e := macro.Read(l)
		text := show(got)
		if e != api.OK {
			text = fmt.Sprintf("error %d at %d", e, at)
		}
		if text != x.want {
			t.Errorf("Read of %q = %s; expected %s", x.text, text, x.want)
		}
		if want, wantAt, wantErr := fragment.Read(l, macro.Words(l)); !exactly(got, want) || at != wantAt || e != wantErr {
			t.Errorf("Read of %q = %s, %d, %v; with its words fragment.Read = %s, %d, %v", x.text, show(got), at, e, show(want), wantAt, wantErr)
		}
	}
	for _, x := range []struct {
		what string
		l    []api.Token
		at   int
		e    api.Errno
	}{
		{"too many tokens", slices.Repeat(scan(t, "x"), api.MaxTokens+1), 0, api.ErrLong},
		{"a token that is not valid", append(scan(t, "a b"), api.Token{}), 2, api.ErrToken},
		{"too many groups", slices.Repeat(scan(t, "("), 101), 100, api.ErrDeep},
		{"more statement macros than may be words", scan(t, statements(api.MaxWords+1)), 12*api.MaxWords + 5, api.ErrStray},
	} {
		if l, at, e := macro.Read(x.l); len(l) != 0 || at != x.at || e != x.e {
			t.Errorf("%s: Read = %.50s, %d, %v; expected %d, %v", x.what, show(l), at, e, x.at, x.e)
		}
	}
}

// statements returns the definitions of n statement macros.
func statements(n int) string {
	text := ""
	for i := range n {
		text += fmt.Sprintf("define macro w%d { w%d end } => { } end; ", i, i)
	}
	return text
}
