package lex_test

import (
	"math/rand"
	"regexp"
	"slices"
	"strconv"
	"strings"
	"testing"

	"skerry/api"
	"skerry/lex"
)

// reference is a second cutter, by regular expressions: it follows the words of the chapter, and compares all rules everywhere.
type reference struct {
	kinds     []int
	rules     []*regexp.Regexp
	plain     *regexp.Regexp // N
	word      *regexp.Regexp // a name byte
	behind    *regexp.Regexp // a byte that may not stand behind an integer
	canonical *regexp.Regexp
}

func newReference() *reference {
	const (
		w = `[a-z0-9!$&*<>|^%_~?+\-/=]`
		f = `[a-z0-9!$&*<>|^%_~?]`
		n = `(?:[a-z](?:` + w + `*` + f + `)?|[<$%*_]` + w + `*[a-z](?:` + w + `*` + f + `)?)`
	)
	rule := func(s string) *regexp.Regexp {
		r := regexp.MustCompile(`^(?:` + s + `)`)
		r.Longest()
		return r
	}
	return &reference{
		kinds: []int{api.TkName, api.TkNum, api.TkKey, api.TkHash, api.TkSign, api.TkPat},
		rules: []*regexp.Regexp{
			rule(n + `(?:@[a-z0-9][a-z0-9-]*)?`),
			rule(`-?[0-9]+`),
			rule(n + `:`),
			rule(`#t|#f`),
			rule(`[()\[\]{},;.=<>+\-*/&|~?]|:=|::|=>|==|<=|>=`),
			rule(`\?` + n + `(?::` + n + `)?`),
		},
		plain:     rule(n),
		word:      rule(w),
		behind:    rule(`[a-z_?!$]`),
		canonical: rule(`(?:0|-?[1-9][0-9]*)$`),
	}
}

// comment returns the length of the comment with which s begins.
func (r *reference) comment(s string) (int, api.Errno) {
	if strings.HasPrefix(s, "//") {
		line, _, _ := strings.Cut(s, "\n")
		return len(line), api.OK
	}
	if !strings.HasPrefix(s, "/*") {
		return 0, api.OK
	}
	depth, i := 0, 0
	for i < len(s) {
		switch {
		case strings.HasPrefix(s[i:], "/*"):
			depth, i = depth+1, i+2
		case strings.HasPrefix(s[i:], "*/"):
			depth, i = depth-1, i+2
		default:
			i++
		}
		if depth > api.MaxDeep {
			return 0, api.ErrDeep
		}
		if depth == 0 {
			return i, api.OK
		}
	}
	return 0, api.ErrComment
}

// token returns the kind and the length of the token with which s begins, behind the token last.
func (r *reference) token(s string, last api.Token) (int, int) {
	reach := s[:min(len(s), api.MaxReach)]
	named := r.plain.MatchString(reach)
	kind, size := 0, 0
	for i, rule := range r.rules {
		n := len(rule.FindString(reach))
		switch r.kinds[i] {
		case api.TkKey:
			if n > 0 && n < len(s) && (s[n] == ':' || s[n] == '=') {
				n = 0
			}
		case api.TkNum:
			operand := last.Kind == api.TkName || last.Kind == api.TkNum || last.Kind == api.TkHash || last.Text == ")" || last.Text == "]"
			if s[0] == '-' && operand {
				n = 0
			}
		}
		if named && r.kinds[i] != api.TkName && r.kinds[i] != api.TkKey {
			n = 0
		}
		if n > size {
			kind, size = r.kinds[i], n
		}
	}
	return kind, size
}

// wrong returns the error of the token of a kind of n bytes with which s begins.
func (r *reference) wrong(s string, kind, n, tokens int) api.Errno {
	if kind == api.TkNum {
		_, err := strconv.ParseInt(s[:n], 10, 64)
		if !r.canonical.MatchString(s[:n]) || err != nil || r.behind.MatchString(s[n:]) || n >= api.MaxReach {
			return api.ErrDigit
		}
	}
	if s[0] == '#' && (kind != api.TkHash || r.word.MatchString(s[n:])) {
		return api.ErrHash
	}
	if n > api.MaxName {
		return api.ErrLong
	}
	if kind == 0 {
		return api.ErrByte
	}
	if tokens == api.MaxTokens {
		return api.ErrLong
	}
	return api.OK
}

func (r *reference) pieces(text string) ([]api.Piece, int, api.Errno) {
	var out []api.Piece
	if len(text) > api.MaxText {
		return nil, 0, api.ErrLong
	}
	var last api.Token
	tokens := 0
	for at := 0; at < len(text); {
		s := text[at:]
		kind := api.PcComment
		n, e := r.comment(s)
		if e != api.OK {
			return nil, at, e
		}
		if n == 0 {
			kind, n = api.PcBlank, len(s)-len(strings.TrimLeft(s, " \t\n\r"))
		}
		if n == 0 {
			kind, n = r.token(s, last)
			if e := r.wrong(s, kind, n, tokens); e != api.OK {
				return nil, at, e
			}
			last = api.Token{Kind: kind, Text: s[:n]}
			tokens++
		}
		out = append(out, api.Piece{Kind: kind, At: at, Len: n})
		at += n
	}
	return out, 0, api.OK
}

func (r *reference) compare(t *testing.T, text string) {
	t.Helper()
	l, at, e := lex.Pieces(text)
	wl, wat, we := r.pieces(text)
	if !slices.Equal(l, wl) || at != wat || e != we {
		t.Fatalf("Pieces(%q) = %v, %d, %v; the reference has %v, %d, %v", text, l, at, e, wl, wat, we)
	}
}

// TestP1_1AllShortTexts: all texts of up to three bytes that the grammar tells apart, and all pairs of bytes.
func TestP1_1AllShortTexts(t *testing.T) {
	r := newReference()
	const bytes = "atz019<$%*_!&>|^~?+-/=@:#()[]{},;. \n\"A\x80"
	for i := range len(bytes) {
		for j := range len(bytes) {
			for k := range len(bytes) {
				r.compare(t, string([]byte{bytes[i], bytes[j], bytes[k]}))
			}
		}
	}
	for i := range 256 {
		r.compare(t, string([]byte{byte(i)}))
		for j := range 256 {
			r.compare(t, string([]byte{byte(i), byte(j)}))
			r.compare(t, string([]byte{'a', byte(i), byte(j)}))
		}
	}
}

// snippets are what random texts are made of.
var snippets = []string{
	"a", "b", "end", "<a>", "size+1", "empty?", "x@l", "*v*", "$k", "0", "7", "42", "-3", "-", "9223372036854775807", "k:", "key:", "#t", "#f", "?x", "?x:name", "?",
	"(", ")", "[", "]", "{", "}", ",", ";", ".", "<", "=", ">", "+", "*", "/", "&", "|", "~", ":=", "::", "=>", "==", "<=", ">=", ":",
	" ", " ", " ", " ", " ", " ", " ", "\n", "\t\r", "// c\n", "/* c */", "/*/**/*/", "/**/",
}

// flaws are what makes most texts wrong.
var flaws = []string{"/*", "*/", "//", "007", "-0", "3x", "#", "#true", "@", "\"", "_", "A", "\xff", "aaaaaaaaaaaaaaaaaaaaaaaaaaaaaaaaaaaaaaaaaaaaaaaa", "+++++++++++++++++++++++++++++++++++++++++++++++++++++++++"}

// randomText returns a text of at most n snippets.
func randomText(r *rand.Rand, n int, flawed bool) string {
	var b strings.Builder
	for range r.Intn(n + 1) {
		if flawed && r.Intn(20) == 0 {
			b.WriteString(flaws[r.Intn(len(flaws))])
		} else {
			b.WriteString(snippets[r.Intn(len(snippets))])
		}
	}
	return b.String()
}

// goodText returns a text without an error, of at most n snippets.
func goodText(r *rand.Rand, n int) string {
	text := ""
	for n > 0 {
		text += randomText(r, min(n, 10), false)
		n -= 10
		for _, at, e := lex.Pieces(text); e != api.OK; _, at, e = lex.Pieces(text) {
			text = text[:at]
		}
	}
	return text
}

func TestP1_1RandomTexts(t *testing.T) {
	r, rnd := newReference(), rand.New(rand.NewSource(1))
	for range 8000 {
		r.compare(t, randomText(rnd, 12, true))
	}
	for range 300 {
		r.compare(t, goodText(rnd, 200))
	}
}

// TestP1_1RandomWords: long runs of name bytes, whose ends are around the reach of the rules.
func TestP1_1RandomWords(t *testing.T) {
	r, rnd := newReference(), rand.New(rand.NewSource(2))
	beginnings := []string{"", "a", "<", "*", "?", "?a", "?<", "-", "#t", "a@", "a:", "?a:", "?a:<", "1"}
	ends := []string{"", "a", "*", ":", "a:", "a::", "a:=", "@", "a@", "@a", "a@1", "a:b", "1", " ", "=>", "//", "(", "a@-"}
	for range 4000 {
		fill := []string{"+", "a", "*", "-", "0", "/", "a+"}[rnd.Intn(7)]
		n := []int{rnd.Intn(6), 34 + rnd.Intn(8), 94 + rnd.Intn(8)}[rnd.Intn(3)] / len(fill)
		r.compare(t, beginnings[rnd.Intn(len(beginnings))]+strings.Repeat(fill, n)+ends[rnd.Intn(len(ends))]+ends[rnd.Intn(len(ends))])
	}
}
