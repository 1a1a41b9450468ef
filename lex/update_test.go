package lex_test

import (
	"math"
	"slices"
	"strings"
	"testing"

	"skerry/api"
	"skerry/lex"
)

func TestP1_3Change(t *testing.T) {
	for _, x := range []struct {
		text    string
		s       api.Splice
		want    string
		wantErr api.Errno
	}{
		{"a b c", api.Splice{At: 2, Del: 1, Ins: "dd"}, "a dd c", api.OK},
		{"abc", api.Splice{Ins: "x"}, "xabc", api.OK},
		{"abc", api.Splice{At: 3, Ins: "x"}, "abcx", api.OK},
		{"abc", api.Splice{Del: 3}, "", api.OK},
		{"abc", api.Splice{At: 1, Del: 2}, "a", api.OK},
		{"", api.Splice{}, "", api.OK},
		{"\"#\xff", api.Splice{At: 1, Ins: "\x00"}, "\"\x00#\xff", api.OK},
		{strings.Repeat("a", api.MaxText), api.Splice{Ins: "a"}, strings.Repeat("a", api.MaxText+1), api.OK},
		{"abc", api.Splice{At: 4}, "", api.ErrArg},
		{"abc", api.Splice{At: -1}, "", api.ErrArg},
		{"abc", api.Splice{At: -1, Del: 2, Ins: "x"}, "", api.ErrArg},
		{"abc", api.Splice{Del: -1}, "", api.ErrArg},
		{"abc", api.Splice{At: 3, Del: -1}, "", api.ErrArg},
		{"abc", api.Splice{Del: 4}, "", api.ErrArg},
		{"abc", api.Splice{At: 2, Del: 2}, "", api.ErrArg},
		{"abc", api.Splice{At: 1, Del: math.MaxInt}, "", api.ErrArg},
		{"abc", api.Splice{At: math.MaxInt, Del: math.MaxInt}, "", api.ErrArg},
		{"abc", api.Splice{At: math.MinInt, Del: math.MinInt}, "", api.ErrArg},
	} {
		if got, e := lex.Change(x.text, x.s); got != x.want || e != x.wantErr {
			t.Errorf("Change(%.20q, %v) = %.20q, %v; expected %.20q, %v", x.text, x.s, got, e, x.want, x.wantErr)
		}
	}
}

// pieces returns the pieces of a text that has no error.
func pieces(t *testing.T, text string) []api.Piece {
	t.Helper()
	l, _, e := lex.Pieces(text)
	if e != api.OK {
		t.Fatalf("Pieces(%q): %v", text, e)
	}
	return l
}

func TestP1_3Update(t *testing.T) {
	for _, x := range []struct {
		text string
		s    api.Splice
		want string
		kept api.Kept
	}{
		{"a b c", api.Splice{At: 2, Del: 1, Ins: "dd"}, "na¦b ¦ndd¦b ¦nc", api.Kept{Front: 2, Back: 2}},
		{"a b c", api.Splice{At: 2, Del: 1, Ins: "d"}, "na¦b ¦nd¦b ¦nc", api.Kept{Front: 5, Back: 0}},
		{"a b c", api.Splice{}, "na¦b ¦nb¦b ¦nc", api.Kept{Front: 5}},
		{"", api.Splice{Ins: "a"}, "na", api.Kept{}},
		{"", api.Splice{}, "", api.Kept{}},
		{"a b", api.Splice{Del: 3}, "", api.Kept{}},
		{"a b", api.Splice{At: 3, Ins: " c"}, "na¦b ¦nb¦b ¦nc", api.Kept{Front: 3}},
		{"a b", api.Splice{Ins: "c "}, "nc¦b ¦na¦b ¦nb", api.Kept{Front: 3, Back: 0}},
		{"aa b", api.Splice{Ins: "c "}, "nc¦b ¦naa¦b ¦nb", api.Kept{Back: 3}},
		{"a b", api.Splice{At: 1, Del: 1}, "nab", api.Kept{}},
		{";;;;", api.Splice{At: 1, Del: 1}, "s;¦s;¦s;", api.Kept{Front: 3}},
		{"a b", api.Splice{At: 1, Ins: " "}, "na¦b  ¦nb", api.Kept{Front: 1, Back: 1}},
		// a token decides what a - far behind it is
		{"a /*c*/ -3", api.Splice{Del: 1, Ins: "("}, "s(¦b ¦c/*c*/¦b ¦i-3", api.Kept{Front: 0, Back: 0}},
		{"( /*c*/ -3 4", api.Splice{Del: 1, Ins: "aa"}, "naa¦b ¦c/*c*/¦b ¦s-¦i3¦b ¦i4", api.Kept{Back: 2}},
		{"a b -3", api.Splice{At: 3, Ins: ":"}, "na¦b ¦kb:¦b ¦i-3", api.Kept{Front: 2}},
		// comments that begin and end
		{"a b */ c", api.Splice{Ins: "/*"}, "c/*a b */¦b ¦nc", api.Kept{Back: 2}},
		{"/*a b */ c", api.Splice{Del: 2}, "na¦b ¦nb¦b ¦s*¦s/¦b ¦nc", api.Kept{Back: 2}},
		{"// a\n b", api.Splice{At: 4, Del: 1}, "c// a b", api.Kept{}},
		{"/*a*/ b", api.Splice{At: 3, Ins: "/* */"}, "c/*a/* */*/¦b ¦nb", api.Kept{Back: 2}},
	} {
		l := pieces(t, x.text)
		now, k, at, e := lex.Update(x.text, l, x.s)
		changed, _ := lex.Change(x.text, x.s)
		if got := show(changed, now); got != x.want || k != x.kept || at != 0 || e != api.OK {
			t.Errorf("Update(%q, %v) = %q, %v, %d, %v; expected %q, %v", x.text, x.s, got, k, at, e, x.want, x.kept)
		}
		if !slices.Equal(l, pieces(t, x.text)) {
			t.Errorf("Update(%q, %v) changes its argument", x.text, x.s)
		}
	}
}

// TestP1_3UpdateErrors: which errors there are, and which is ahead of which.
func TestP1_3UpdateErrors(t *testing.T) {
	long := strings.Repeat(" ", api.MaxText)
	far := strings.Repeat(";", 500)
	for _, x := range []struct {
		what, text string
		of         string // the text whose pieces are given
		s          api.Splice
		at         int
		want       api.Errno
	}{
		{"other pieces", "a b", "a b c", api.Splice{}, 0, api.ErrPieces},
		{"no pieces", "a b", "", api.Splice{}, 0, api.ErrPieces},
		{"too few pieces", "a b", "a ", api.Splice{}, 0, api.ErrPieces},
		{"other pieces of as many bytes", "a b", "a -", api.Splice{}, 0, api.ErrPieces},
		{"a text with an error", "\"", "", api.Splice{Del: 1}, 0, api.ErrPieces},
		{"a text with an error behind the pieces", "a \"", "a ", api.Splice{At: 2, Del: 1}, 0, api.ErrPieces},
		{"a text that is too long", long + " ", long, api.Splice{Del: 1}, 0, api.ErrPieces},
		{"other pieces and no splice", "a b", "", api.Splice{At: -1}, 0, api.ErrPieces},
		{"no splice", "a b", "a b", api.Splice{At: 4}, 0, api.ErrArg},
		{"no splice, of a text that would be too long", long, long, api.Splice{At: -1, Ins: "a"}, 0, api.ErrArg},
		{"a text that becomes too long", long, long, api.Splice{At: 3, Ins: "a"}, 0, api.ErrLong},
		{"a text that becomes too long, and wrong", long, long, api.Splice{At: 3, Ins: "\""}, 0, api.ErrLong},
		{"an error in what is inserted", far, far, api.Splice{At: 300, Ins: "a \" b"}, 302, api.ErrByte},
		{"an error that what is inserted makes", "1 2", "1 2", api.Splice{At: 1, Del: 1, Ins: "x"}, 0, api.ErrDigit},
		{"a comment that is opened", "a b", "a b", api.Splice{At: 2, Ins: "/*"}, 2, api.ErrComment},
		{"a hash word that is cut", far + "#t;", far + "#t;", api.Splice{At: 501, Del: 1}, 500, api.ErrHash},
	} {
		l := pieces(t, x.of)
		now, k, at, e := lex.Update(x.text, l, x.s)
		if now != nil || k != (api.Kept{}) || at != x.at || e != x.want {
			t.Errorf("%s: Update = %d pieces, %v, %d, %v; expected the error %v at %d", x.what, len(now), k, at, e, x.want, x.at)
		}
	}
	if _, _, _, e := lex.Update("a", []api.Piece{{Kind: api.TkName, At: 1, Len: 1}}, api.Splice{}); e != api.ErrPieces {
		t.Errorf("a piece with another offset: %v", e)
	}
}

// TestP1_3UpdateTooManyTokens: tokens are counted where they are not cut again, too.
func TestP1_3UpdateTooManyTokens(t *testing.T) {
	text := strings.Repeat("; ", api.MaxTokens)
	l := pieces(t, text)
	for _, x := range []struct {
		s    api.Splice
		at   int
		want api.Errno
	}{
		{api.Splice{At: 4000, Ins: "a"}, 11999, api.ErrLong},
		{api.Splice{At: 4000, Ins: "a b "}, 12000, api.ErrLong},
		{api.Splice{Ins: ","}, 11999, api.ErrLong},
		{api.Splice{At: 12000, Ins: "/**/,"}, 12004, api.ErrLong},
		{api.Splice{At: 4000, Del: 1, Ins: "a"}, 0, api.OK},
		{api.Splice{At: 4000, Ins: "/* */"}, 0, api.OK},
		{api.Splice{At: 4000, Ins: "/*"}, 4000, api.ErrComment},
	} {
		now, _, at, e := lex.Update(text, l, x.s)
		if at != x.at || e != x.want || (now == nil) != (e != api.OK) {
			t.Errorf("Update with %v = %d pieces, %d, %v; expected %d, %v", x.s, len(now), at, e, x.at, x.want)
		}
	}
}

// TestP1_3UpdateIsNew: results share no memory with arguments.
func TestP1_3UpdateIsNew(t *testing.T) {
	text := "a " + strings.Repeat("; ", 200) + "b"
	l := pieces(t, text)
	now, _, _, _ := lex.Update(text, l, api.Splice{At: 300})
	clear(now)
	if !slices.Equal(l, pieces(t, text)) {
		t.Error("the result of Update shares memory with its argument")
	}
}
