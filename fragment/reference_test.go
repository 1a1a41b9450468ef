package fragment_test

import (
	"math/rand"
	"slices"
	"strings"
	"testing"

	"skerry/api"
	"skerry/fragment"
	"skerry/lex"
)

// reference is a second reader, by recursive descent: it follows the words of the chapter, and returns its errors.
type reference struct {
	tokens []api.Token
	words  []string
	at     int
	depth  int
}

// is reports whether the token with an index is of a kind, and one of some texts.
func (r *reference) is(at, kind int, texts ...string) bool {
	return at < len(r.tokens) && r.tokens[at].Kind == kind && slices.Contains(texts, r.tokens[at].Text)
}

// list reads the fragments up to the token that closes the group open, or, if this is empty, up to the end.
func (r *reference) list(open string) ([]api.Frag, int, api.Errno) {
	var out []api.Frag
	begin := r.at - 1
	for ; r.at < len(r.tokens); r.at++ {
		t := r.tokens[r.at]
		switch {
		case lex.Check(t) != api.OK:
			return nil, r.at, api.ErrToken
		case r.opens(open, begin):
			if r.depth == api.MaxDeep {
				return nil, r.at, api.ErrDeep
			}
			r.depth++
			r.at++
			kids, at, e := r.list(t.Text)
			if e != api.OK {
				return nil, at, e
			}
			r.depth--
			out = append(out, api.Frag{Tok: t, Open: t.Text, Kids: kids})
			for range r.repeated(t.Text, kids) {
				r.at++
				if lex.Check(r.tokens[r.at]) != api.OK {
					return nil, r.at, api.ErrToken
				}
			}
		case r.is(r.at, api.TkSign, ")", "]", "}"), r.is(r.at, api.TkName, "end"):
			closers := map[string]string{"(": ")", "[": "]", "{": "}", "": "nothing"}
			want, ok := closers[open]
			if !ok {
				want = "end"
			}
			if t.Text != want {
				return nil, r.at, api.ErrStray
			}
			return out, 0, api.OK
		default:
			out = append(out, api.Frag{Tok: t})
		}
	}
	if open != "" {
		return nil, begin, api.ErrOpen
	}
	return out, 0, api.OK
}

// opens reports whether the next token opens a group, within a group that began at an index.
func (r *reference) opens(open string, begin int) bool {
	if r.is(r.at, api.TkSign, "(", "[", "{") {
		return true
	}
	if !r.is(r.at, api.TkName, "begin", "if", "block", "method", "class", "macro") && !r.is(r.at, api.TkName, r.words...) {
		return false
	}
	if r.is(r.at, api.TkName, "class") && r.is(r.at+1, api.TkName, "slot") {
		return false
	}
	return open != "macro" || begin != r.at-1
}

// repeated returns how many tokens behind the end of a group are dropped: it counts the names ahead of the next stop first.
func (r *reference) repeated(open string, kids []api.Frag) int {
	if open != "class" && open != "method" && open != "macro" {
		return 0
	}
	var names []string
	at := r.at + 1
	for at < len(r.tokens) && r.tokens[at].Kind == api.TkName && r.tokens[at].Text != "end" {
		names = append(names, r.tokens[at].Text)
		at++
	}
	stop := at == len(r.tokens) || r.is(at, api.TkSign, ";", ",", ")", "]", "}") || r.is(at, api.TkName, "end")
	first := ""
	if len(kids) > 0 && kids[0].Open == "" && kids[0].Tok.Kind == api.TkName {
		first = kids[0].Tok.Text
	}
	if stop && len(names) == 1 && (names[0] == open || names[0] == first) || stop && len(names) == 2 && names[0] == open && names[1] == first {
		return len(names)
	}
	return 0
}

// compare reads tokens with both readers.
func compare(t *testing.T, l []api.Token, words []string) {
	t.Helper()
	r := &reference{tokens: l, words: words}
	want, wantAt, wantErr := r.list("")
	got, at, e := fragment.Read(l, words)
	if !exactly(got, want) || at != wantAt || e != wantErr {
		t.Fatalf("Read(%q, %q) = %s, %d, %v; expected %s, %d, %v", texts(l), words, show(got), at, e, show(want), wantAt, wantErr)
	}
}

// texts returns the texts of tokens with blanks in between.
func texts(l []api.Token) string {
	var out []string
	for _, t := range l {
		out = append(out, t.Text)
	}
	return strings.Join(out, " ")
}

// vocabulary is what random tokens are made of.
var vocabulary = strings.Fields("begin if block method class macro slot while until end end end m m x <a> ( ( ) ) [ ] { } ; , = . 1 -3 k: end: #t ?x ?end:slot m@l")

// given are the words that random readings may have.
var given = []string{"while", "until", "m", "x"}

// token returns the token with a text, at a random place.
func token(rnd *rand.Rand, text string) api.Token {
	n, _ := lex.Number(text)
	return api.Token{Kind: lex.Kind(text), Num: n, Text: text, At: rnd.Intn(1000), Mark: rnd.Intn(3)}
}

// noise returns at most n random tokens.
func noise(rnd *rand.Rand, n int) []api.Token {
	var out []api.Token
	for range rnd.Intn(n + 1) {
		out = append(out, token(rnd, vocabulary[rnd.Intn(len(vocabulary))]))
	}
	return out
}

// someWords returns some of the words that may be given.
func someWords(rnd *rand.Rand) []string {
	var out []string
	for _, w := range given {
		if rnd.Intn(3) == 0 {
			out = append(out, w)
		}
	}
	return out
}

// pick returns one of some texts.
func pick(rnd *rand.Rand, l ...string) string { return l[rnd.Intn(len(l))] }

// nest returns tokens that can mostly be read, with at most n groups within each other, and often with names behind the end of groups.
func nest(rnd *rand.Rand, n int) []api.Token {
	var out []api.Token
	add := func(text string) {
		l, _, _ := lex.Scan(text)
		for _, x := range l {
			out = append(out, token(rnd, x.Text))
		}
	}
	for range rnd.Intn(5) {
		switch k := rnd.Intn(10); {
		case n == 0 || k < 3:
			add(pick(rnd, "m", "x", "1", "k:", ",", ";", "=", "slot"))
		case k < 5:
			pair := pick(rnd, "()", "[]", "{}")
			add(pair[:1])
			out = append(out, nest(rnd, n-1)...)
			add(pair[1:])
		default:
			word := pick(rnd, append(fragment.Words(), "while", "class", "class", "method", "method", "macro", "macro")...)
			first := pick(rnd, "m", "m", "m", "x", "<a>", "class slot", "(m)", "1", "m:", pick(rnd, "begin", "class", "macro", "while", ""))
			add(word + " " + first)
			out = append(out, nest(rnd, n-1)...)
			add("end " + pick(rnd, "", word, "m", first, word+" "+first, word+" "+first, pick(rnd, "class", "m m", word+" m")))
			add(pick(rnd, "", ";", ",", ";", ",", pick(rnd, "x", ".")))
		}
	}
	return out
}

// change makes some tokens other ones.
func change(rnd *rand.Rand, l []api.Token) []api.Token {
	l = slices.Clone(l)
	for range rnd.Intn(3) {
		at := rnd.Intn(len(l) + 1)
		l = slices.Replace(l, at, min(len(l), at+rnd.Intn(2)), noise(rnd, 2)...)
	}
	if len(l) > 0 && rnd.Intn(10) == 0 {
		wrong := []api.Token{{}, {Kind: api.TkName, Text: "m", Num: 1}, {Kind: api.TkKey, Text: "end"}, {Kind: api.TkSign, Text: "slot"}, {Kind: api.TkName, Text: "(", At: 3}, {Kind: api.TkSign, Text: ";", Mark: -1}}
		l[rnd.Intn(len(l))] = wrong[rnd.Intn(len(wrong))]
	}
	return l
}

// readable returns random fragments that were read, the words, and the tokens.
func readable(rnd *rand.Rand) ([]api.Frag, []string, []api.Token) {
	for {
		words := someWords(rnd)
		l := nest(rnd, rnd.Intn(5))
		if rnd.Intn(10) == 0 {
			l = noise(rnd, 5)
		}
		if frags, _, e := fragment.Read(l, words); e == api.OK && (len(l) > 3 || rnd.Intn(10) == 0) {
			return frags, words, l
		}
	}
}

func TestP2_1ReadRandomTokens(t *testing.T) {
	rnd := rand.New(rand.NewSource(1))
	good := 0
	for range 15000 {
		l, words := nest(rnd, rnd.Intn(4)), someWords(rnd)
		compare(t, l, words)
		if _, _, e := fragment.Read(l, words); e == api.OK && len(l) > 3 {
			good++
		}
		compare(t, change(rnd, l), words)
		compare(t, noise(rnd, 8), words)
	}
	if good < 2000 {
		t.Errorf("only %d lists can be read", good)
	}
}

// TestP2_1ReadShortLists: all lists of a few tokens behind each other.
func TestP2_1ReadShortLists(t *testing.T) {
	rnd := rand.New(rand.NewSource(2))
	some := []string{"method", "class", "macro", "slot", "begin", "end", "m", "(", ")", ";"}
	for length := range 5 {
		count := 1
		for range length {
			count *= len(some)
		}
		for i := range count {
			var l []api.Token
			for range length {
				l = append(l, token(rnd, some[i%len(some)]))
				i /= len(some)
			}
			compare(t, l, nil)
			compare(t, slices.Concat(scan(t, "method m end"), l), []string{"m"})
			compare(t, slices.Concat(scan(t, "macro class end"), l), nil)
		}
	}
}

func TestP2_1ReadDeepTokens(t *testing.T) {
	rnd := rand.New(rand.NewSource(3))
	for range 1000 {
		var l []api.Token
		for range 95 + rnd.Intn(6) {
			l = append(l, scan(t, []string{"(", "[", "begin x", "method", "macro while", "{ class slot", "class <a>"}[rnd.Intn(7)])...)
		}
		compare(t, append(l, noise(rnd, 20)...), someWords(rnd))
	}
}
