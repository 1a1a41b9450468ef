package fragment_test

import (
	"slices"
	"strings"
	"testing"

	"skerry/api"
	"skerry/fragment"
	"skerry/lex"
)

// show writes fragments as the texts of their tokens, and groups in angle quotes, without what closes them.
func show(l []api.Frag) string {
	var out []string
	for _, f := range l {
		switch {
		case f.Open == "":
			out = append(out, f.Tok.Text)
		case len(f.Kids) == 0:
			out = append(out, "‹"+f.Open+"›")
		default:
			out = append(out, "‹"+f.Open+" "+show(f.Kids)+"›")
		}
	}
	return strings.Join(out, " ")
}

// scan returns the tokens of a text.
func scan(t *testing.T, text string) []api.Token {
	t.Helper()
	l, _, e := lex.Scan(text)
	if e != api.OK {
		t.Fatalf("Scan(%.60q) = %v", text, e)
	}
	return l
}

// read returns the fragments of a text that can be read.
func read(t *testing.T, text string, words ...string) []api.Frag {
	t.Helper()
	l, at, e := fragment.Read(scan(t, text), words)
	if at != 0 || e != api.OK {
		t.Fatalf("Read(%.60q, %q) = %d, %v", text, words, at, e)
	}
	return l
}

// nested returns a text of n groups within each other.
func nested(n int) string { return strings.Repeat("( ", n) + strings.Repeat(") ", n) }

func TestP2_1Words(t *testing.T) {
	want := []string{"begin", "if", "block", "method", "class", "macro"}
	l := fragment.Words()
	if !slices.Equal(l, want) {
		t.Fatalf("Words = %q", l)
	}
	clear(l)
	if !slices.Equal(fragment.Words(), want) {
		t.Error("two results of Words share memory")
	}
}

func TestP2_1ReadGroups(t *testing.T) {
	for _, x := range []struct{ text, words, want string }{
		{"", "", ""},
		{"a 1 k: #t + ?x ?x:name a@l", "", "a 1 k: #t + ?x ?x:name a@l"},
		{"f(x, [1])", "", "f ‹( x , ‹[ 1››"},
		{"() [] {}", "", "‹(› ‹[› ‹{›"},
		{"(({[(1)]}))", "", "‹( ‹( ‹{ ‹[ ‹( 1›››››"},
		{"begin end if a end block ( ) end", "", "‹begin› ‹if a› ‹block ‹(››"},
		{"begin if block x end end end", "", "‹begin ‹if ‹block x›››"},
		{"method m () 1 end class <a> () end macro x end", "", "‹method m ‹(› 1› ‹class <a> ‹(›› ‹macro x›"},
		{"[begin (x) end]", "", "‹[ ‹begin ‹( x›››"},
		{"begin: end: if: ?begin ?x:end begin@a", "", "begin: end: if: ?begin ?x:end begin@a"},
		{"slot x", "", "slot x"},
		// given words
		{"while (a) b end", "while", "‹while ‹( a› b›"},
		{"while until a end end", "until while", "‹while ‹until a››"},
		{"while a", "", "while a"},
		{"for x", "while", "for x"},
		{"while: ?while while@a", "while", "while: ?while while@a"},
		// class and slot
		{"class slot x; slot y", "", "class slot x ; slot y"},
		{"class slot class slot", "", "class slot class slot"},
		{"class <a> () class slot x end", "", "‹class <a> ‹(› class slot x›"},
		{"class class slot end", "", "‹class class slot›"},
		{"class ( slot ) end", "", "‹class ‹( slot››"},
		{"class slot: end", "", "‹class slot:›"},
		{"class ?slot end", "", "‹class ?slot›"},
		{"class slot@a end", "", "‹class slot@a›"},
		{"class end slot", "", "‹class› slot"},
		{"while slot x end if slot end", "while", "‹while slot x› ‹if slot›"},
		// names behind macro
		{"define macro while { x } end", "while", "define ‹macro while ‹{ x››"},
		{"macro begin end macro if end macro class x end", "", "‹macro begin› ‹macro if› ‹macro class x›"},
		{"macro macro end", "", "‹macro macro›"},
		{"macro macro macro x end end", "", "‹macro macro ‹macro x››"},
		{"macro macro begin end end", "", "‹macro macro ‹begin››"},
		{"macro begin begin x end end", "", "‹macro begin ‹begin x››"},
		{"macro class slot end", "", "‹macro class slot›"},
		{"macro (begin x end) end", "", "‹macro ‹( ‹begin x›››"},
		{"macro {} begin x end end", "", "‹macro ‹{› ‹begin x››"},
		{"macro end", "", "‹macro›"},
		{"method begin x end end", "", "‹method ‹begin x››"},
		{"macro: begin end ?macro begin end", "", "macro: ‹begin› ?macro ‹begin›"},
	} {
		if got := show(read(t, x.text, strings.Fields(x.words)...)); got != x.want {
			t.Errorf("Read(%q, %q) = %s; expected %s", x.text, x.words, got, x.want)
		}
	}
}

// TestP2_1ReadDropped: what repeats the word and the name of a group behind its end.
func TestP2_1ReadDropped(t *testing.T) {
	for _, x := range []struct{ text, want string }{
		{"define method area (s) s end method area;", "define ‹method area ‹( s› s› ;"},
		// the word, the name, or the word and the name
		{"method m () 1 end", "‹method m ‹(› 1›"},
		{"method m () 1 end method", "‹method m ‹(› 1›"},
		{"method m () 1 end m", "‹method m ‹(› 1›"},
		{"method m () 1 end method m", "‹method m ‹(› 1›"},
		{"method m () 1 end m m", "‹method m ‹(› 1› m m"},
		{"method m () 1 end x", "‹method m ‹(› 1› x"},
		{"class <a> () end class", "‹class <a> ‹(››"},
		{"class <a> () end <a>", "‹class <a> ‹(››"},
		{"class <a> () end class <a>", "‹class <a> ‹(››"},
		{"macro m {} end macro", "‹macro m ‹{››"},
		{"macro m {} end m", "‹macro m ‹{››"},
		{"macro m {} end macro m", "‹macro m ‹{››"},
		{"method a@l () 1 end a@l", "‹method a@l ‹(› 1›"},
		{"method m () 1 end class", ""},
		{"class <a> () end <b>", "‹class <a> ‹(›› <b>"},
		{"method m () 1 end method x", ""},
		{"method m () 1 end method: m", "‹method m ‹(› 1› method: m"},
		{"method m () 1 end ?m", "‹method m ‹(› 1› ?m"},
		{"method m () 1 end m:", "‹method m ‹(› 1› m:"},
		// the name is the word, or another opening word
		{"macro macro {} end macro", "‹macro macro ‹{››"},
		{"macro macro {} end macro macro", "‹macro macro ‹{››"},
		{"macro macro {} end macro macro macro", ""},
		{"macro begin {} end begin", "‹macro begin ‹{››"},
		{"macro begin {} end macro begin;", "‹macro begin ‹{›› ;"},
		{"macro begin {} end begin x end", "‹macro begin ‹{›› ‹begin x›"},
		{"class class slot end class slot", "‹class class slot› class slot"},
		{"method class slot end class;", "‹method class slot› ;"},
		{"method class slot end method class;", "‹method class slot› ;"},
		// the stops
		{"method m end m ;", "‹method m› ;"},
		{"method m end m , x", "‹method m› , x"},
		{"(method m end m)", "‹( ‹method m››"},
		{"[method m end method]", "‹[ ‹method m››"},
		{"{method m end method m}", "‹{ ‹method m››"},
		{"begin method m end m end", "‹begin ‹method m››"},
		{"begin method m end method m end", "‹begin ‹method m››"},
		{"method m method k end k end m", "‹method m ‹method k››"},
		{"method m method m end end m", "‹method m ‹method m››"},
		{"method m end m .", "‹method m› m ."},
		{"method m end m (", ""},
		{"method m end m ()", "‹method m› m ‹(›"},
		{"method m end m =", "‹method m› m ="},
		{"method m end m x", "‹method m› m x"},
		{"method m end m end: x", "‹method m› m end: x"},
		{"method m end method m x", ""},
		{"method m end method (x) end", "‹method m› ‹method ‹( x››"},
		{"method m end method m . end", "‹method m› ‹method m .›"},
		{"class a end class slot x", "‹class a› class slot x"},
		// the first fragment is no name
		{"method () 1 end method", "‹method ‹(› 1›"},
		{"method (m) 1 end m", "‹method ‹( m› 1› m"},
		{"method (m) 1 end method m", ""},
		{"method 1 m end m", "‹method 1 m› m"},
		{"method m: 1 end m", "‹method m: 1› m"},
		{"method ?m 1 end m", "‹method ?m 1› m"},
		{"method begin m end end begin", ""},
		{"method end method", "‹method›"},
		{"method end m", "‹method› m"},
		// other groups
		{"begin m end m;", "‹begin m› m ;"},
		{"block (m) 1 end m;", "‹block ‹( m› 1› m ;"},
		{"if (m) 1 end if", ""},
		{"while m end m;", "‹while m› m ;"},
		{"while m end while;", ""},
		{"(m) m", "‹( m› m"},
	} {
		l, at, e := fragment.Read(scan(t, x.text), []string{"while"})
		if got := show(l); got != x.want || (e != api.OK) != (x.want == "") || e == api.OK && at != 0 {
			t.Errorf("Read(%q) = %s, %d, %v; expected %s", x.text, got, at, e, x.want)
		}
	}
}

func TestP2_1ReadKeepsTokens(t *testing.T) {
	l := []api.Token{
		{Kind: api.TkName, Text: "f", At: 7, Mark: 3},
		{Kind: api.TkSign, Text: "(", At: 5, Mark: 4},
		{Kind: api.TkNum, Num: -1, Text: "-1", At: 9, Mark: 1},
		{Kind: api.TkSign, Text: ")", At: 8, Mark: 2},
	}
	before := slices.Clone(l)
	got, at, e := fragment.Read(l, nil)
	want := []api.Frag{{Tok: l[0]}, {Tok: l[1], Open: "(", Kids: []api.Frag{{Tok: l[2]}}}}
	if !exactly(got, want) || at != 0 || e != api.OK {
		t.Fatalf("Read = %v, %d, %v; expected %v", got, at, e, want)
	}
	if !slices.Equal(l, before) {
		t.Error("Read changes its argument")
	}
	l[0].Text = "g"
	if got[0].Tok.Text != "f" {
		t.Error("the result of Read shares memory with its argument")
	}
}

// exactly reports whether lists of fragments are equal, where empty lists and nil are.
func exactly(a, b []api.Frag) bool {
	if len(a) != len(b) {
		return false
	}
	for i := range a {
		if a[i].Tok != b[i].Tok || a[i].Open != b[i].Open || !exactly(a[i].Kids, b[i].Kids) {
			return false
		}
	}
	return true
}

func TestP2_1ReadErrors(t *testing.T) {
	deep := strings.Repeat("( begin ", 50)
	for _, x := range []struct {
		text, words string
		at          int
		want        api.Errno
	}{
		{"begin (end)", "", 2, api.ErrStray},
		{"if (a) b", "", 0, api.ErrOpen},
		{"while (a) b end", "", 5, api.ErrStray},
		// none is open
		{")", "", 0, api.ErrStray},
		{"a ]", "", 1, api.ErrStray},
		{"() }", "", 2, api.ErrStray},
		{"a; end", "", 2, api.ErrStray},
		{"class slot x end", "", 3, api.ErrStray},
		{"method m 1 end end", "", 4, api.ErrStray},
		// another sort is open
		{"(]", "", 1, api.ErrStray},
		{"(}", "", 1, api.ErrStray},
		{"(end", "", 1, api.ErrStray},
		{"[)", "", 1, api.ErrStray},
		{"[}", "", 1, api.ErrStray},
		{"[end", "", 1, api.ErrStray},
		{"{)", "", 1, api.ErrStray},
		{"{]", "", 1, api.ErrStray},
		{"{end", "", 1, api.ErrStray},
		{"begin )", "", 1, api.ErrStray},
		{"method ]", "", 1, api.ErrStray},
		{"macro }", "", 1, api.ErrStray},
		{"while }", "while", 1, api.ErrStray},
		{"([)]", "", 2, api.ErrStray},
		{"( begin ) end", "", 2, api.ErrStray},
		{"macro begin x end end", "", 4, api.ErrStray},
		// not closed
		{"a ( b", "", 1, api.ErrOpen},
		{"( ( )", "", 0, api.ErrOpen},
		{"( [", "", 1, api.ErrOpen},
		{"( [ ] begin x", "", 3, api.ErrOpen},
		{"class", "", 0, api.ErrOpen},
		{"class <a> () end class slot x class", "", 8, api.ErrOpen},
		{"method m 1 end method x", "", 4, api.ErrOpen},
		{"macro begin x end begin x", "", 4, api.ErrOpen},
		{"macro macro {} end macro macro macro", "", 7, api.ErrOpen},
		{"end: (", "", 1, api.ErrOpen},
		{"macro x (", "", 2, api.ErrOpen},
		// too deep
		{deep + "(", "", 100, api.ErrDeep},
		{deep + "begin", "", 100, api.ErrDeep},
		{deep + "a macro", "", 101, api.ErrDeep},
		{deep + "class <a>", "", 100, api.ErrDeep},
		{deep + "while", "while", 100, api.ErrDeep},
		{deep + "( )", "", 100, api.ErrDeep},
		{deep + "while", "", 99, api.ErrOpen},
		{deep + "a class slot x", "", 99, api.ErrOpen},
		{deep + "end macro begin", "", 101, api.ErrOpen},
		{deep + "end macro begin {", "", 103, api.ErrDeep},
		{deep + ")", "", 100, api.ErrStray},
		// the first one from the left
		{") ( ]", "", 0, api.ErrStray},
		{deep + "( ]", "", 100, api.ErrDeep},
		{"a ) " + deep + "(", "", 1, api.ErrStray},
	} {
		l, at, e := fragment.Read(scan(t, x.text), strings.Fields(x.words))
		if l != nil || at != x.at || e != x.want {
			t.Errorf("Read(%.60q, %q) = %s, %d, %v; expected an error %v at %d", x.text, x.words, show(l), at, e, x.want, x.at)
		}
	}
	if l := read(t, nested(api.MaxDeep)); fragment.Depth(l) != api.MaxDeep {
		t.Errorf("%d groups are at a depth of %d", api.MaxDeep, fragment.Depth(l))
	}
}

func TestP2_1ReadTokenErrors(t *testing.T) {
	bad := []api.Token{{}, {Kind: api.TkName, Text: "("}, {Kind: api.TkSign, Text: "end"}, {Kind: api.TkKey, Text: "begin"}, {Kind: api.TkName, Text: "m", At: -1}, {Kind: api.TkName, Text: "m", Mark: -1}, {Kind: api.TkName, Text: "m", Num: 1}, {Kind: api.TkNum, Text: "1"}, {Kind: api.PcBlank, Text: " "}}
	deep := strings.Repeat("( ", api.MaxDeep)
	for _, text := range []string{"", "a", "a (", "begin", "macro", "class", "method m end", "method m end method", deep} {
		l := scan(t, text)
		for _, b := range bad {
			if got, at, e := fragment.Read(append(slices.Clone(l), b, api.Token{}), nil); got != nil || at != len(l) || e != api.ErrToken {
				t.Errorf("Read of %q and %v = %v, %d, %v; expected ErrToken and %d", text, b, got, at, e, len(l))
			}
		}
	}
	// What is dropped has to be valid, and what lets it be dropped, too.
	l := scan(t, "method m () 1 end method m;")
	for i := range l {
		for _, change := range []func(*api.Token){
			func(x *api.Token) { x.At = -1 },
			func(x *api.Token) { x.Mark = -1 },
			func(x *api.Token) { x.Num = 12 },
		} {
			m := slices.Clone(l)
			change(&m[i])
			if got, at, e := fragment.Read(m, nil); got != nil || at != i || e != api.ErrToken {
				t.Errorf("Read with a wrong token %d = %v, %d, %v", i, got, at, e)
			}
		}
	}
	// The first error from the left.
	l = scan(t, "a ) b")
	l[2] = api.Token{}
	if _, at, e := fragment.Read(l, nil); at != 1 || e != api.ErrStray {
		t.Errorf("Read with ) ahead of a wrong token = %d, %v", at, e)
	}
	l[0] = api.Token{}
	if _, at, e := fragment.Read(l, nil); at != 0 || e != api.ErrToken {
		t.Errorf("Read with ) behind a wrong token = %d, %v", at, e)
	}
	l = scan(t, "( ( b")
	l[2] = api.Token{}
	if _, at, e := fragment.Read(l, nil); at != 2 || e != api.ErrToken {
		t.Errorf("Read with a wrong token in open groups = %d, %v", at, e)
	}
}

func TestP2_1ReadArguments(t *testing.T) {
	long := slices.Repeat(scan(t, ";"), api.MaxTokens+1)
	var many []string
	for i := range api.MaxWords + 1 {
		many = append(many, "w"+lex.Digits(i))
	}
	wrong := [][]string{
		{"end"}, {"slot"}, {"begin"}, {"if"}, {"block"}, {"method"}, {"class"}, {"macro"},
		{""}, {"a@l"}, {"a:"}, {"("}, {"1"}, {"#t"}, {"?x"}, {"a "}, {"a b"}, {"A"}, {"a+"}, {strings.Repeat("a", 41)},
		{"while", "while"}, {"a", "b", "c", "a"}, {"a", "b", "end"}, {"a", ""}, many,
	}
	for _, words := range wrong {
		for _, l := range [][]api.Token{nil, scan(t, "a"), scan(t, "("), {{}}, long} {
			if got, at, e := fragment.Read(l, words); got != nil || at != 0 || e != api.ErrArg {
				t.Errorf("Read of %d tokens with %.60q = %v, %d, %v; expected ErrArg", len(l), words, got, at, e)
			}
		}
		if e := fragment.Check(nil, words); e != api.ErrArg {
			t.Errorf("Check with %.60q = %v", words, e)
		}
	}
	for _, words := range [][]string{nil, {}, many[:api.MaxWords], {"<a>", "while", "empty?", "define", "x-end", strings.Repeat("a", 40)}} {
		if l, at, e := fragment.Read(scan(t, "a"), words); len(l) != 1 || at != 0 || e != api.OK {
			t.Errorf("Read with %q = %v, %d, %v", words, l, at, e)
		}
	}
	if got, at, e := fragment.Read(long, nil); got != nil || at != 0 || e != api.ErrLong {
		t.Errorf("Read of %d tokens = %d fragments, %d, %v", len(long), len(got), at, e)
	}
	if got, at, e := fragment.Read(make([]api.Token, api.MaxTokens+1), nil); got != nil || at != 0 || e != api.ErrLong {
		t.Errorf("Read of too many wrong tokens = %d fragments, %d, %v", len(got), at, e)
	}
	if got, at, e := fragment.Read(long[1:], nil); len(got) != api.MaxTokens || at != 0 || e != api.OK {
		t.Errorf("Read of %d tokens = %d fragments, %d, %v", api.MaxTokens, len(got), at, e)
	}
}
