package lex_test

import (
	"slices"
	"strings"
	"testing"

	"skerry/api"
	"skerry/lex"
)

// show writes pieces as their texts between bars, each with a letter for its kind.
func show(text string, l []api.Piece) string {
	letters := [...]string{"?", "n", "i", "k", "h", "s", "p", "b", "c"}
	var out []string
	for _, p := range l {
		out = append(out, letters[p.Kind]+text[p.At:p.At+p.Len])
	}
	return strings.Join(out, "¦")
}

// TestP1_1Pieces: the lexical grammar, by ordinary texts and the cases that the chapter names.
func TestP1_1Pieces(t *testing.T) {
	for _, x := range []struct{ text, want string }{
		{"", ""},
		{"a /* b */ c", "na¦b ¦c/* b */¦b ¦nc"},
		// names
		{"define class <point> (<object>) end;", "ndefine¦b ¦nclass¦b ¦n<point>¦b ¦s(¦n<object>¦s)¦b ¦nend¦s;"},
		{"x.size+1", "nx¦s.¦nsize+1"},
		{"a-b", "na-b"},
		{"a - b", "na¦b ¦s-¦b ¦nb"},
		{"a+", "na¦s+"},
		{"a+-/=", "na¦s+¦s-¦s/¦s="},
		{"a+-/=b", "na+-/=b"},
		{"empty? set! <a> a&b|c^d%e_f~g$h*i", "nempty?¦b ¦nset!¦b ¦n<a>¦b ¦na&b|c^d%e_f~g$h*i"},
		{"<=a $a %a *a* _a _1a", "n<=a¦b ¦n$a¦b ¦n%a¦b ¦n*a*¦b ¦n_a¦b ¦n_1a"},
		{"a//b", "na//b"},
		{"a/*c*/", "na/*c*¦s/"},
		{"a>b=>c", "na>b=>c"},
		{"a=> a=", "na=>¦b ¦na¦s="},
		{"area@shapes", "narea@shapes"},
		{"a@1-b-", "na@1-b-"},
		{"<a>@l-2+b", "n<a>@l-2¦s+¦nb"},
		{"a@b?", "na@b¦s?"},
		{"a@b::c", "na@b¦s::¦nc"},
		// integers
		{"0 7, -3 10", "i0¦b ¦i7¦s,¦b ¦i-3¦b ¦i10"},
		{"9223372036854775807,-9223372036854775808", "i9223372036854775807¦s,¦i-9223372036854775808"},
		{"f(a - -3, b-2)", "nf¦s(¦na¦b ¦s-¦b ¦i-3¦s,¦b ¦nb-2¦s)"},
		{"a -3", "na¦b ¦s-¦i3"},
		{"a@b -3", "na@b¦b ¦s-¦i3"},
		{"4-3", "i4¦s-¦i3"},
		{"4 /*c*/ //d\n -3", "i4¦b ¦c/*c*/¦b ¦c//d¦b\n ¦s-¦i3"},
		{"#t -3", "h#t¦b ¦s-¦i3"},
		{")-3]-3}-3", "s)¦s-¦i3¦s]¦s-¦i3¦s}¦i-3"},
		{"(-3[-3{-3,-3;-3", "s(¦i-3¦s[¦i-3¦s{¦i-3¦s,¦i-3¦s;¦i-3"},
		{"x: -3 ?x -3", "kx:¦b ¦i-3¦b ¦p?x¦b ¦i-3"},
		{"--3", "s-¦i-3"},
		{"a -0", "na¦b ¦s-¦i0"},
		{"3<4 3*x 3+4 3%a 3>4 3=4 3~4 3|4", "i3¦s<¦i4¦b ¦i3¦n*x¦b ¦i3¦s+¦i4¦b ¦i3¦n%a¦b ¦i3¦s>¦i4¦b ¦i3¦s=¦i4¦b ¦i3¦s~¦i4¦b ¦i3¦s|¦i4"},
		{"3//c", "i3¦c//c"},
		// keywords
		{"make(c, x: 1)", "nmake¦s(¦nc¦s,¦b ¦kx:¦b ¦i1¦s)"},
		{"init-keyword:x:", "kinit-keyword:¦kx:"},
		{"<a>:", "k<a>:"},
		{"x::<integer>", "nx¦s::¦n<integer>"},
		{"x:=1 x:==", "nx¦s:=¦i1¦b ¦nx¦s:=¦s="},
		{"x:::=", "nx¦s::¦s:="},
		// hash words
		{"#t #f,#t:=#f::#t", "h#t¦b ¦h#f¦s,¦h#t¦s:=¦h#f¦s::¦h#t"},
		// signs
		{"()[]{},;.=", "s(¦s)¦s[¦s]¦s{¦s}¦s,¦s;¦s.¦s="},
		{"< > + - * / & | ~ ?", "s<¦b ¦s>¦b ¦s+¦b ¦s-¦b ¦s*¦b ¦s/¦b ¦s&¦b ¦s|¦b ¦s~¦b ¦s?"},
		{":= :: => == <= >=", "s:=¦b ¦s::¦b ¦s=>¦b ¦s==¦b ¦s<=¦b ¦s>="},
		{"==>=>=<==<>", "s==¦s>=¦s>=¦s<=¦s=¦s<¦s>"},
		{"?1", "s?¦i1"},
		{"/a =a >a |a &a ~a +a -a", "s/¦na¦b ¦s=¦na¦b ¦s>¦na¦b ¦s|¦na¦b ¦s&¦na¦b ¦s~¦na¦b ¦s+¦na¦b ¦s-¦na"},
		// pattern variables
		{"?x:name => ?x", "p?x:name¦b ¦s=>¦b ¦p?x"},
		{"?<a>:b+c+", "p?<a>:b+c¦s+"},
		{"?x::y", "p?x¦s::¦ny"},
		{"?x:=y", "p?x¦s:=¦ny"},
		{"?x?y ??x", "p?x?y¦b ¦s?¦p?x"},
		{"?x.y", "p?x¦s.¦ny"},
		{"?x+y:z", "p?x+y:z"},
		{"?x+ :: y", "p?x¦s+¦b ¦s::¦b ¦ny"},
		// blanks and comments
		{" \t\r\n a", "b \t\r\n ¦na"},
		{"a // c /* d\nb", "na¦b ¦c// c /* d¦b\n¦nb"},
		{"// to the end \xff\x00", "c// to the end \xff\x00"},
		{"//", "c//"},
		{"///*\n", "c///*¦b\n"},
		{"/**/a", "c/**/¦na"},
		{"/*/*/**/*/*/a", "c/*/*/**/*/*/¦na"},
		{"/* // */ a", "c/* // */¦b ¦na"},
		{"/*\x80\x00\"#*/*/", "c/*\x80\x00\"#*/¦s*¦s/"},
		{"/*a*//*b*/", "c/*a*/¦c/*b*/"},
	} {
		l, at, e := lex.Pieces(x.text)
		if got := show(x.text, l); got != x.want || at != 0 || e != api.OK {
			t.Errorf("Pieces(%q) = %q, %d, %v; expected %q", x.text, got, at, e, x.want)
		}
	}
}

func TestP1_1PiecesHaveOffsets(t *testing.T) {
	want := []api.Piece{{Kind: 1, At: 0, Len: 1}, {Kind: 7, At: 1, Len: 1}, {Kind: 8, At: 2, Len: 7}, {Kind: 7, At: 9, Len: 1}, {Kind: 1, At: 10, Len: 1}}
	if l, _, _ := lex.Pieces("a /* b */ c"); !slices.Equal(l, want) {
		t.Errorf("Pieces = %v; expected %v", l, want)
	}
}

// TestP1_1Errors: the errors at the beginning of a piece.
func TestP1_1Errors(t *testing.T) {
	for _, x := range []struct {
		text string
		at   int
		want api.Errno
	}{
		{"a /* b", 2, api.ErrComment},
		{"/*", 0, api.ErrComment},
		{"/*/", 0, api.ErrComment},
		{"/* /* */", 0, api.ErrComment},
		{"a 007", 2, api.ErrDigit},
		{"00", 0, api.ErrDigit},
		{"-0", 0, api.ErrDigit},
		{"(-01", 1, api.ErrDigit},
		{"a -01", 3, api.ErrDigit},
		{"9223372036854775808", 0, api.ErrDigit},
		{"-9223372036854775809", 0, api.ErrDigit},
		{"a -9223372036854775808", 3, api.ErrDigit},
		{"3x", 0, api.ErrDigit},
		{"-3z", 0, api.ErrDigit},
		{"3_", 0, api.ErrDigit},
		{"3?", 0, api.ErrDigit},
		{"3!", 0, api.ErrDigit},
		{"3$", 0, api.ErrDigit},
		{"#true", 0, api.ErrHash},
		{"#t=", 0, api.ErrHash},
		{"#f1", 0, api.ErrHash},
		{"#t+", 0, api.ErrHash},
		{"#t-3", 0, api.ErrHash},
		{"a #", 2, api.ErrHash},
		{"#a", 0, api.ErrHash},
		{"#T", 0, api.ErrHash},
		{"# t", 0, api.ErrHash},
		{"\"", 0, api.ErrByte},
		{"a@", 1, api.ErrByte},
		{"a@+b", 1, api.ErrByte},
		{"a+@b", 2, api.ErrByte},
		{"a@b@c", 3, api.ErrByte},
		{"a@b:", 3, api.ErrByte},
		{"a@_", 1, api.ErrByte},
		{"a+:", 2, api.ErrByte},
		{"?x+:y", 3, api.ErrByte},
		{"?x@y", 2, api.ErrByte},
		{"?x:3", 2, api.ErrByte},
		{"?x:y:z", 4, api.ErrByte},
		{"3:", 1, api.ErrByte},
		{"3@a", 1, api.ErrByte},
		{"3X", 1, api.ErrByte},
		{"aB", 1, api.ErrByte},
		{"x :", 2, api.ErrByte},
		{":::", 2, api.ErrByte},
		{"!a", 0, api.ErrByte},
		{"^a", 0, api.ErrByte},
		{"$1", 0, api.ErrByte},
		{"%", 0, api.ErrByte},
		{"_", 0, api.ErrByte},
		{"a\v", 1, api.ErrByte},
		{"é", 0, api.ErrByte},
		{"a\x00", 1, api.ErrByte},
		{"\xff", 0, api.ErrByte},
		{"a \" 007 #", 2, api.ErrByte},
		{"a 007 \"", 2, api.ErrDigit},
	} {
		l, at, e := lex.Pieces(x.text)
		if l != nil || at != x.at || e != x.want {
			t.Errorf("Pieces(%q) = %v, %d, %v; expected the error %v at %d", x.text, l, at, e, x.want, x.at)
		}
		if l, at, e := lex.Scan(x.text); l != nil || at != x.at || e != x.want {
			t.Errorf("Scan(%q) = %v, %d, %v; expected the error %v at %d", x.text, l, at, e, x.want, x.at)
		}
	}
}

// TestP1_1Limits: both sides of each limit, and which error is ahead of which.
func TestP1_1Limits(t *testing.T) {
	b := strings.Repeat
	for _, x := range []struct {
		what, text string
		count, at  int
		want       api.Errno
	}{
		{"the longest text", b(" ", api.MaxText), 1, 0, api.OK},
		{"a text that is too long", b(" ", api.MaxText+1), 0, 0, api.ErrLong},
		{"one with another error", "\"" + b(" ", api.MaxText), 0, 0, api.ErrLong},
		{"a name of 40 bytes", b("a", 40), 1, 0, api.OK},
		{"a name of 41 bytes", " " + b("a", 41), 0, 1, api.ErrLong},
		{"a qualified name of 40 bytes", b("a", 20) + "@" + b("b", 19), 1, 0, api.OK},
		{"a qualified name of 41 bytes", b("a", 20) + "@" + b("b", 20), 0, 0, api.ErrLong},
		{"a keyword of 40 bytes", b("a", 39) + ":", 1, 0, api.OK},
		{"a keyword of 41 bytes", b("a", 40) + ":", 0, 0, api.ErrLong},
		{"a name of 40 bytes and a sign", b("a", 40) + "::", 2, 0, api.OK},
		{"a pattern variable of 40 bytes", "?" + b("a", 39), 1, 0, api.OK},
		{"a pattern variable of 41 bytes", "?" + b("a", 40), 0, 0, api.ErrLong},
		{"a pattern variable with a kind of 40 bytes", "?" + b("a", 19) + ":" + b("b", 19), 1, 0, api.OK},
		{"a pattern variable with a kind of 41 bytes", "?" + b("a", 19) + ":" + b("b", 20), 0, 0, api.ErrLong},
		{"50 digits", b("1", 50), 0, 0, api.ErrDigit},
		{"more digits than the reach", "x " + b("1", 150), 0, 2, api.ErrDigit},
		{"a name whose end is within the reach", "a" + b("+", 98) + "b", 0, 0, api.ErrLong},
		{"one whose end is not", "a" + b("+", 99) + "b", 101, 0, api.OK},
		{"a name whose letter is within the reach", "<" + b("+", 98) + "a", 0, 0, api.ErrLong},
		{"one whose letter is not", "<" + b("+", 99) + "a", 101, 0, api.OK},
		{"100 comments", b("/*", 100) + b("*/", 100), 1, 0, api.OK},
		{"101 comments", "a " + b("/*", 101) + b("*/", 101), 0, 2, api.ErrDeep},
		{"100 comments without ends", b("/*", 100), 0, 0, api.ErrComment},
		{"101 comments without ends", b("/*", 101), 0, 0, api.ErrDeep},
		{"many comments, but not within each other", "/*" + b("/**/", 200) + "*/", 1, 0, api.OK},
		{"many comments in a row", b("/**/", 200), 200, 0, api.OK},
		{"6000 tokens", b(";", 6000), 6000, 0, api.OK},
		{"6000 tokens and blanks and comments", b("; ", 6000) + "/**/ //", 12003, 0, api.OK},
		{"6001 tokens", " " + b(";", 6001), 0, 6001, api.ErrLong},
		{"6001 tokens with blanks between them", b("; ", 6000) + "/**/ a", 0, 12005, api.ErrLong},
		{"6000 tokens and an error", b(";", 6000) + "\"", 0, 6000, api.ErrByte},
		{"6000 tokens and digits", b(";", 6000) + "00", 0, 6000, api.ErrDigit},
		{"6001 tokens and an error", b(";", 6001) + "\"", 0, 6000, api.ErrLong},
		{"6000 tokens and a comment without end", b(";", 6000) + "/*", 0, 6000, api.ErrComment},
	} {
		l, at, e := lex.Pieces(x.text)
		if len(l) != x.count || at != x.at || e != x.want {
			t.Errorf("%s: %d pieces, %d, %v; expected %d, %d, %v", x.what, len(l), at, e, x.count, x.at, x.want)
		}
	}
}

// TestP1_2Scan: tokens with all of their fields, and none of the other pieces.
func TestP1_2Scan(t *testing.T) {
	want := []api.Token{
		{Kind: api.TkPat, Text: "?x:name", At: 1},
		{Kind: api.TkSign, Text: "=>", At: 9},
		{Kind: api.TkKey, Text: "k:", At: 19},
		{Kind: api.TkNum, Num: -12, Text: "-12", At: 21},
		{Kind: api.TkHash, Text: "#f", At: 25},
		{Kind: api.TkName, Text: "a@l", At: 32},
		{Kind: api.TkSign, Text: "-", At: 36},
		{Kind: api.TkNum, Num: 5, Text: "5", At: 37},
	}
	l, at, e := lex.Scan(" ?x:name => /*123*/k:-12 #f //c\na@l -5 ")
	if e != api.OK || at != 0 || !slices.Equal(l, want) {
		t.Errorf("Scan = %v, %d, %v; expected %v", l, at, e, want)
	}
	if l, at, e := lex.Scan(" // c"); len(l) != 0 || at != 0 || e != api.OK {
		t.Errorf("Scan of blanks and a comment = %v, %d, %v", l, at, e)
	}
}
