package lex_test

import (
	"math"
	"slices"
	"strings"
	"testing"

	"skerry/api"
	"skerry/lex"
)

func TestP1_4Kind(t *testing.T) {
	for kind, l := range map[int][]string{
		api.TkName: {"a", "define", "<point>", "size+1", "a-b", "empty?", "x@l", "<a>@1-", "*a*", "<=a", "a//b", strings.Repeat("a", 40)},
		api.TkNum:  {"0", "7", "-3", "9223372036854775807", "-9223372036854775808"},
		api.TkKey:  {"x:", "init-value:", "<a>:", strings.Repeat("a", 39) + ":"},
		api.TkHash: {"#t", "#f"},
		api.TkSign: {"(", ")", "[", "]", "{", "}", ",", ";", ".", "<", "=", ">", "+", "-", "*", "/", "&", "|", "~", "?", ":=", "::", "=>", "==", "<=", ">="},
		api.TkPat:  {"?x", "?x:name", "?<a>:b+c", "?" + strings.Repeat("a", 39)},
		0: {"", " ", "a ", " a", "a b", "a+", "x@", "x@l:", "x@l@m", "-0", "00", "007", "3x", "- 3", "+3", "1_0", "0x1", "9223372036854775808", "-9223372036854775809",
			":", "x::", "x:=", "x: ", "#", "#true", "#t ", "!=", "~=", "//", "/**/", "\n", "?x:", "?x:3", "?x:y:", "??x", "?3", "_", "$1", "A", "é", "\x00", "\"",
			strings.Repeat("a", 41), strings.Repeat("a", 40) + ":", "?" + strings.Repeat("a", 40), strings.Repeat("a", api.MaxText+1), strings.Repeat("/*", 1000)},
	} {
		for _, s := range l {
			if got := lex.Kind(s); got != kind {
				t.Errorf("Kind(%.50q) = %d; expected %d", s, got, kind)
			}
		}
	}
}

func TestP1_4Names(t *testing.T) {
	for _, x := range []struct {
		s           string
		name, plain bool
		ahead       string
		behind      string
	}{
		{"area@shapes", true, false, "area", "shapes"},
		{"<a>@1-", true, false, "<a>", "1-"},
		{"area", true, true, "area", ""},
		{"empty?", true, true, "empty?", ""},
		{"<=a", true, true, "<=a", ""},
		{"", false, false, "", ""},
		{"@", false, false, "@", ""},
		{"a@", false, false, "a@", ""},
		{"@a", false, false, "@a", ""},
		{"a@b@c", false, false, "a@b@c", ""},
		{"a@B", false, false, "a@B", ""},
		{"a+@b", false, false, "a+@b", ""},
		{"a@b ", false, false, "a@b ", ""},
		{"a@b:", false, false, "a@b:", ""},
		{"a+", false, false, "a+", ""},
		{"x:", false, false, "x:", ""},
		{"?x", false, false, "?x", ""},
		{"7", false, false, "7", ""},
		{"#t", false, false, "#t", ""},
		{"<", false, false, "<", ""},
		{strings.Repeat("a", 20) + "@" + strings.Repeat("a", 19), true, false, strings.Repeat("a", 20), strings.Repeat("a", 19)},
		{strings.Repeat("a", 20) + "@" + strings.Repeat("a", 20), false, false, strings.Repeat("a", 20) + "@" + strings.Repeat("a", 20), ""},
		{strings.Repeat("a", 41), false, false, strings.Repeat("a", 41), ""},
	} {
		if got := lex.IsName(x.s); got != x.name {
			t.Errorf("IsName(%q) = %v", x.s, got)
		}
		if got := lex.IsPlain(x.s); got != x.plain {
			t.Errorf("IsPlain(%q) = %v", x.s, got)
		}
		if a, b := lex.Split(x.s); a != x.ahead || b != x.behind {
			t.Errorf("Split(%q) = %q, %q; expected %q, %q", x.s, a, b, x.ahead, x.behind)
		}
	}
}

func TestP1_5Numbers(t *testing.T) {
	for _, x := range []struct {
		text string
		n    int
	}{
		{"0", 0}, {"7", 7}, {"-1", -1}, {"10", 10}, {"-90", -90},
		{"9223372036854775807", math.MaxInt}, {"-9223372036854775808", math.MinInt},
	} {
		if n, e := lex.Number(x.text); n != x.n || e != api.OK {
			t.Errorf("Number(%q) = %d, %v", x.text, n, e)
		}
		if s := lex.Digits(x.n); s != x.text {
			t.Errorf("Digits(%d) = %q", x.n, s)
		}
	}
	for _, s := range []string{"", "-", "+1", "-0", "00", "01", "-01", "1 ", " 1", "1x", "x", "1_0", "0x1", "1.0", "9223372036854775808", "-9223372036854775809", strings.Repeat("9", 200), "#t", "1-1", "--1", "١"} {
		if n, e := lex.Number(s); n != 0 || e != api.ErrDigit {
			t.Errorf("Number(%q) = %d, %v; expected ErrDigit", s, n, e)
		}
	}
}

// valid are valid tokens of all kinds.
var valid = []api.Token{
	{Kind: api.TkName, Text: "a", At: 3, Mark: 7},
	{Kind: api.TkName, Text: "a@l", At: math.MaxInt, Mark: math.MaxInt},
	{Kind: api.TkNum, Num: -12, Text: "-12"},
	{Kind: api.TkNum, Num: 0, Text: "0"},
	{Kind: api.TkKey, Text: "k:"},
	{Kind: api.TkHash, Text: "#f"},
	{Kind: api.TkSign, Text: "=>"},
	{Kind: api.TkPat, Text: "?x:name"},
	{Kind: api.TkPat, Text: "?x"},
}

// invalid are tokens that are not valid.
var invalid = []api.Token{
	{},
	{Kind: api.TkName},
	{Kind: api.TkName, Text: "a "},
	{Kind: api.TkName, Text: "a+"},
	{Kind: api.TkName, Text: "k:"},
	{Kind: api.TkKey, Text: "a"},
	{Kind: api.TkName, Text: "?x"},
	{Kind: api.TkPat, Text: "a"},
	{Kind: api.TkSign, Text: "#t"},
	{Kind: api.TkPat, Text: "?"},
	{Kind: api.TkSign, Text: "-12", Num: -12},
	{Kind: api.TkNum, Text: "12", Num: 13},
	{Kind: api.TkNum, Text: "12"},
	{Kind: api.TkNum, Text: "012", Num: 12},
	{Kind: api.TkName, Text: "a", Num: 1},
	{Kind: api.TkHash, Text: "#t", Num: 1},
	{Kind: api.TkName, Text: "a", At: -1},
	{Kind: api.TkName, Text: "a", Mark: -1},
	{Kind: api.TkPat, Text: "?x", At: -1},
	{Kind: api.TkPat, Text: "?x", Mark: -1},
	{Kind: api.TkPat, Text: "?x", Num: 1},
	{Kind: api.TkPat, Text: "?x:"},
	{Kind: api.PcBlank, Text: " "},
	{Kind: api.PcComment, Text: "//"},
	{Kind: 0, Text: " "},
	{Kind: 0, Text: "\""},
	{Kind: -1, Text: "a"},
	{Kind: math.MaxInt, Text: "a"},
	{Kind: api.TkName, Text: strings.Repeat("a", 41)},
}

func TestP1_6Check(t *testing.T) {
	for _, x := range valid {
		if e := lex.Check(x); e != api.OK {
			t.Errorf("Check(%v) = %v", x, e)
		}
	}
	for _, x := range invalid {
		if e := lex.Check(x); e != api.ErrToken {
			t.Errorf("Check(%v) = %v; expected ErrToken", x, e)
		}
	}
}

func TestP1_6Join(t *testing.T) {
	if s := lex.Join(valid); s != "a a@l -12 0 k: #f => ?x:name ?x" {
		t.Errorf("Join = %q", s)
	}
	if s := lex.Join(nil); s != "" {
		t.Errorf("Join of nothing = %q", s)
	}
	if s := lex.Join(valid[:1]); s != "a" {
		t.Errorf("Join of one token = %q", s)
	}
	for _, x := range invalid {
		for i := range len(valid) + 1 {
			if s := lex.Join(slices.Insert(slices.Clone(valid), i, x)); s != "" {
				t.Errorf("Join with %v at %d = %q", x, i, s)
			}
		}
	}
}

func TestP1_6Same(t *testing.T) {
	moved := slices.Clone(valid)
	for i := range moved {
		moved[i].At, moved[i].Mark = i, i+1
	}
	if !lex.Same(valid, moved) || !lex.Same(nil, []api.Token{}) || !lex.Same(invalid, invalid) {
		t.Error("Same: lists that differ by At and Mark alone are not the same")
	}
	if lex.Same(valid, valid[1:]) || lex.Same(valid, valid[:len(valid)-1]) || lex.Same(nil, valid) {
		t.Error("Same: lists of different lengths are the same")
	}
	for i := range valid {
		for _, change := range []func(*api.Token){
			func(t *api.Token) { t.Kind++ },
			func(t *api.Token) { t.Num++ },
			func(t *api.Token) { t.Text += "x" },
		} {
			other := slices.Clone(valid)
			change(&other[i])
			if lex.Same(valid, other) || lex.Same(other, valid) {
				t.Errorf("Same: %v and %v are the same", valid[i], other[i])
			}
		}
	}
	if lex.Same([]api.Token{valid[0], valid[2]}, []api.Token{valid[2], valid[0]}) {
		t.Error("Same: the order does not matter")
	}
}

func TestP1_6Pattern(t *testing.T) {
	for _, x := range []struct{ text, name, kind string }{
		{"?x:name", "x", "name"}, {"?x", "x", ""}, {"?<a>:b+c", "<a>", "b+c"}, {"?x?y", "x?y", ""},
	} {
		if name, kind := lex.Pattern(api.Token{Kind: api.TkPat, Text: x.text, At: 5, Mark: 6}); name != x.name || kind != x.kind {
			t.Errorf("Pattern(%q) = %q, %q", x.text, name, kind)
		}
	}
	for _, x := range slices.Concat(valid[:7], invalid) {
		if name, kind := lex.Pattern(x); name != "" || kind != "" {
			t.Errorf("Pattern(%v) = %q, %q", x, name, kind)
		}
	}
}
