package fragment_test

import (
	"math"
	"slices"
	"strings"
	"testing"

	"skerry/api"
	"skerry/fragment"
	"skerry/lex"
)

func name(text string) api.Token { return api.Token{Kind: api.TkName, Text: text} }
func sign(text string) api.Token { return api.Token{Kind: api.TkSign, Text: text} }

// parens returns a group (.
func parens(kids ...api.Frag) api.Frag { return api.Frag{Tok: sign("("), Open: "(", Kids: kids} }

// tower returns n groups within each other, the innermost one with kids.
func tower(n int, kids ...api.Frag) []api.Frag {
	for range n {
		kids = []api.Frag{parens(kids...)}
	}
	return kids
}

// row returns n tokens.
func row(n int) []api.Frag { return slices.Repeat([]api.Frag{{Tok: name("x")}}, n) }

func TestP2_1Flat(t *testing.T) {
	l := []api.Frag{
		{Tok: api.Token{Kind: api.TkName, Text: "f", At: 1, Mark: 2}},
		{Tok: api.Token{Kind: api.TkSign, Text: "(", At: 3, Mark: 4}, Open: "(", Kids: []api.Frag{
			{Tok: api.Token{Kind: api.TkSign, Text: "[", At: 5, Mark: 6}, Open: "["},
			{Tok: api.Token{Kind: api.TkSign, Text: "{", At: 7, Mark: 8}, Open: "{", Kids: []api.Frag{{Tok: api.Token{Kind: api.TkNum, Num: 9, Text: "9", At: 9, Mark: 10}}}},
			{Tok: api.Token{Kind: api.TkName, Text: "begin", At: 11, Mark: 12}, Open: "begin"},
			{Tok: api.Token{Kind: api.TkName, Text: "while", At: 13, Mark: 14}, Open: "while"},
		}},
	}
	want := []api.Token{
		{Kind: api.TkName, Text: "f", At: 1, Mark: 2},
		{Kind: api.TkSign, Text: "(", At: 3, Mark: 4},
		{Kind: api.TkSign, Text: "[", At: 5, Mark: 6},
		{Kind: api.TkSign, Text: "]", At: 5, Mark: 6},
		{Kind: api.TkSign, Text: "{", At: 7, Mark: 8},
		{Kind: api.TkNum, Num: 9, Text: "9", At: 9, Mark: 10},
		{Kind: api.TkSign, Text: "}", At: 7, Mark: 8},
		{Kind: api.TkName, Text: "begin", At: 11, Mark: 12},
		{Kind: api.TkName, Text: "end", At: 11, Mark: 12},
		{Kind: api.TkName, Text: "while", At: 13, Mark: 14},
		{Kind: api.TkName, Text: "end", At: 13, Mark: 14},
		{Kind: api.TkSign, Text: ")", At: 3, Mark: 4},
	}
	if got := fragment.Flat(l); !slices.Equal(got, want) {
		t.Errorf("Flat = %v; expected %v", got, want)
	}
	if got := fragment.Flat(nil); len(got) != 0 {
		t.Errorf("Flat of nothing = %v", got)
	}
	if got := fragment.Flat([]api.Frag{{}}); len(got) != 1 || got[0] != (api.Token{}) {
		t.Errorf("Flat of a token that is not valid = %v", got)
	}
}

// TestP2_1Limits: Size, Depth, Flat, Check and Text of many fragments, and of deep ones.
func TestP2_1Limits(t *testing.T) {
	for _, x := range []struct {
		what        string
		l           []api.Frag
		size, depth int
		e           api.Errno
	}{
		{"nothing", nil, 0, 0, api.OK},
		{"a token", row(1), 1, 0, api.OK},
		{"an empty group", tower(1), 2, 1, api.OK},
		{"two groups", append(tower(2), tower(3)...), 10, 3, api.OK},
		{"the deeper group first", append(tower(3), tower(2)...), 10, 3, api.OK},
		{"as many tokens as may be", row(api.MaxTokens), api.MaxTokens, 0, api.OK},
		{"a token more", row(api.MaxTokens + 1), api.MaxTokens + 1, 0, api.ErrLong},
		{"many tokens more", row(2 * api.MaxTokens), api.MaxTokens + 1, 0, api.ErrLong},
		{"as many tokens as may be, in a group", []api.Frag{parens(row(api.MaxTokens - 2)...)}, api.MaxTokens, 1, api.OK},
		{"a token more in a group", []api.Frag{parens(row(api.MaxTokens - 1)...)}, api.MaxTokens + 1, 1, api.ErrLong},
		{"a token more behind a group", append(tower(1, row(api.MaxTokens-2)...), row(1)...), api.MaxTokens + 1, 1, api.ErrLong},
		{"as many groups as may be", slices.Repeat(tower(1), api.MaxTokens/2), api.MaxTokens, 1, api.OK},
		{"a group more", slices.Repeat(tower(1), api.MaxTokens/2+1), api.MaxTokens + 1, 1, api.ErrLong},
		{"a group with many tokens more, and another one", []api.Frag{parens(row(2 * api.MaxTokens)...), parens(parens())}, api.MaxTokens + 1, 2, api.ErrLong},
		{"as deep as may be", tower(100), 200, 100, api.OK},
		{"a token as deep as may be", tower(100, row(1)...), 201, 100, api.OK},
		{"a group more within", tower(101), 200, 101, api.ErrDeep},
		{"a group with a token more within", tower(101, row(1)...), 200, 101, api.ErrDeep},
		{"a group more between tokens", tower(100, append(append(row(1), tower(3)...), row(1)...)...), 202, 101, api.ErrDeep},
		{"many groups more", tower(5000), 200, 101, api.ErrDeep},
		{"too deep behind what is not", append(tower(2), tower(102)...), 204, 101, api.ErrDeep},
		{"many tokens, all too deep", tower(101, row(2*api.MaxTokens)...), 200, 101, api.ErrDeep},
		{"too many, and too deep", append(row(api.MaxTokens+1), tower(101)...), api.MaxTokens + 1, 101, api.ErrDeep},
		{"as many as may be, and too deep", append(row(api.MaxTokens-200), tower(101)...), api.MaxTokens, 101, api.ErrDeep},
	} {
		if n := fragment.Size(x.l); n != x.size {
			t.Errorf("%s: Size = %d; expected %d", x.what, n, x.size)
		}
		if n := fragment.Depth(x.l); n != x.depth {
			t.Errorf("%s: Depth = %d; expected %d", x.what, n, x.depth)
		}
		if e := fragment.Check(x.l, nil); e != x.e {
			t.Errorf("%s: Check = %v; expected %v", x.what, e, x.e)
		}
		flat := fragment.Flat(x.l)
		if x.e == api.OK && len(flat) != x.size || x.e != api.OK && flat != nil {
			t.Errorf("%s: Flat has %d tokens", x.what, len(flat))
		}
		if s := fragment.Text(x.l); s != lex.Join(flat) {
			t.Errorf("%s: Text = %.60q", x.what, s)
		}
		if e := fragment.Check(x.l, []string{"end"}); e != api.ErrArg {
			t.Errorf("%s: Check with a wrong word = %v", x.what, e)
		}
	}
}

func TestP2_1Check(t *testing.T) {
	x := api.Frag{Tok: name("x")}
	for _, y := range []struct {
		what  string
		l     []api.Frag
		words string
		want  api.Errno
	}{
		{"tokens and groups", []api.Frag{x, parens(x, parens()), x}, "", api.OK},
		{"places and marks", []api.Frag{{Tok: api.Token{Kind: api.TkSign, Text: "(", At: 4, Mark: 5}, Open: "(", Kids: []api.Frag{{Tok: api.Token{Kind: api.TkName, Text: "x", At: 2, Mark: 3}}}}}, "", api.OK},
		{"an empty list of kids", []api.Frag{{Tok: sign("["), Open: "[", Kids: []api.Frag{}}, {Tok: name("x"), Kids: []api.Frag{}}}, "", api.OK},
		{"a group of a word", []api.Frag{{Tok: name("if"), Open: "if", Kids: []api.Frag{x}}}, "", api.OK},
		{"a group of a given word", []api.Frag{{Tok: name("while"), Open: "while"}}, "while", api.OK},
		{"a group of a word that is not given", []api.Frag{{Tok: name("while"), Open: "while"}}, "until", api.ErrFrag},
		{"a token that is a given word", []api.Frag{{Tok: name("while")}}, "while", api.ErrFrag},
		{"a token that is a word that is not given", []api.Frag{{Tok: name("while")}}, "", api.OK},
		{"a token that opens", []api.Frag{{Tok: sign("(")}}, "", api.ErrFrag},
		{"tokens that are a group", []api.Frag{{Tok: sign("(")}, {Tok: sign(")")}}, "", api.ErrFrag},
		{"a token that closes", []api.Frag{{Tok: sign(")")}}, "", api.ErrFrag},
		{"a token that closes in a group", []api.Frag{parens(api.Frag{Tok: sign(")")})}, "", api.ErrFrag},
		{"a token end in a group", []api.Frag{{Tok: name("begin"), Open: "begin", Kids: []api.Frag{{Tok: name("end")}}}}, "", api.ErrFrag},
		{"tokens that close and open in a group", []api.Frag{parens(api.Frag{Tok: sign(")")}, api.Frag{Tok: sign("(")})}, "", api.ErrFrag},
		{"a token with kids", []api.Frag{{Tok: name("x"), Kids: []api.Frag{x}}}, "", api.ErrFrag},
		{"a token with kids in a group", []api.Frag{parens(api.Frag{Tok: name("x"), Kids: []api.Frag{x}})}, "", api.ErrFrag},
		{"a group with another token", []api.Frag{{Tok: sign("["), Open: "("}}, "", api.ErrFrag},
		{"a group with another word", []api.Frag{{Tok: name("if"), Open: "begin"}}, "", api.ErrFrag},
		{"a group with another name", []api.Frag{{Tok: name("x"), Open: "begin"}}, "", api.ErrFrag},
		{"a group with a token of another kind", []api.Frag{{Tok: api.Token{Kind: api.TkKey, Text: "begin:"}, Open: "begin"}}, "", api.ErrFrag},
		{"an opening that is none", []api.Frag{{Tok: name("x"), Open: "x"}}, "", api.ErrFrag},
		{"an opening that closes", []api.Frag{{Tok: sign(")"), Open: ")"}}, "", api.ErrFrag},
		{"an opening end", []api.Frag{{Tok: name("end"), Open: "end"}}, "", api.ErrFrag},
		{"a token that is not valid", []api.Frag{{}}, "", api.ErrFrag},
		{"a token with a negative place", []api.Frag{{Tok: api.Token{Kind: api.TkName, Text: "x", At: -1}}}, "", api.ErrFrag},
		{"a group with a negative mark", []api.Frag{{Tok: api.Token{Kind: api.TkSign, Text: "(", Mark: -1}, Open: "("}}, "", api.ErrFrag},
		{"a group with a number", []api.Frag{{Tok: api.Token{Kind: api.TkSign, Text: "(", Num: 1}, Open: "("}}, "", api.ErrFrag},
		{"class and slot", []api.Frag{{Tok: name("class")}, {Tok: name("slot")}}, "", api.OK},
		{"a token class", []api.Frag{{Tok: name("class")}, x}, "", api.ErrFrag},
		{"a group class with slot", []api.Frag{{Tok: name("class"), Open: "class", Kids: []api.Frag{{Tok: name("slot")}}}}, "", api.ErrFrag},
		{"a token behind macro", []api.Frag{{Tok: name("macro"), Open: "macro", Kids: []api.Frag{{Tok: name("if")}}}}, "", api.OK},
		{"a group behind macro", []api.Frag{{Tok: name("macro"), Open: "macro", Kids: []api.Frag{{Tok: name("if"), Open: "if"}}}}, "", api.ErrFrag},
		{"a name that would be dropped", []api.Frag{{Tok: name("method"), Open: "method", Kids: []api.Frag{x}}, x}, "", api.ErrFrag},
		{"a name that would not be dropped", []api.Frag{{Tok: name("method"), Open: "method", Kids: []api.Frag{x}}, x, x}, "", api.OK},
		{"a name that would be dropped in a group", []api.Frag{parens(api.Frag{Tok: name("method"), Open: "method", Kids: []api.Frag{x}}, x)}, "", api.ErrFrag},
	} {
		before := show(y.l)
		if e := fragment.Check(y.l, strings.Fields(y.words)); e != y.want {
			t.Errorf("%s: Check = %v; expected %v", y.what, e, y.want)
		}
		if show(y.l) != before {
			t.Errorf("%s: Check changes its argument", y.what)
		}
	}
}

func TestP2_1Same(t *testing.T) {
	l := read(t, "f(x, [1], -1) begin k: end")
	same := func(a, b []api.Frag) bool {
		one, other := fragment.Same(a, b), fragment.Same(b, a)
		if one != other {
			t.Errorf("Same of %s and %s is not the same as the other way round", show(a), show(b))
		}
		return one
	}
	if !same(l, l) || !same(nil, []api.Frag{}) || !same(nil, nil) {
		t.Error("lists are not the same as themselves")
	}
	moved := read(t, "f ( x /* */ , [ 1 ] , -1 ) begin k: end")
	moved[1].Tok.Mark, moved[1].Kids[0].Tok.Mark, moved[1].Tok.At = 7, -8, math.MinInt
	if !same(l, moved) {
		t.Error("lists with other places and marks are not the same")
	}
	for i, change := range []func(l []api.Frag) []api.Frag{
		func(l []api.Frag) []api.Frag { return nil },
		func(l []api.Frag) []api.Frag { return l[1:] },
		func(l []api.Frag) []api.Frag { return l[:1] },
		func(l []api.Frag) []api.Frag { return append(l, api.Frag{}) },
		func(l []api.Frag) []api.Frag { l[0].Tok.Kind++; return l },
		func(l []api.Frag) []api.Frag { l[0].Tok.Num++; return l },
		func(l []api.Frag) []api.Frag { l[0].Tok.Text = "g"; return l },
		func(l []api.Frag) []api.Frag { l[0].Open = "("; return l },
		func(l []api.Frag) []api.Frag { l[1].Open = "["; return l },
		func(l []api.Frag) []api.Frag { l[1].Tok.Text = "["; return l },
		func(l []api.Frag) []api.Frag { l[1].Tok.Num = 1; return l },
		func(l []api.Frag) []api.Frag { l[1].Kids = nil; return l },
		func(l []api.Frag) []api.Frag { l[1].Kids[2].Kids[0].Tok.Num = 2; return l },
		func(l []api.Frag) []api.Frag { l[1].Kids[2].Kids = append(l[1].Kids[2].Kids, l[0]); return l },
		func(l []api.Frag) []api.Frag { l[0].Kids = append(l[0].Kids, l[0]); return l },
		func(l []api.Frag) []api.Frag { l[0], l[1] = l[1], l[0]; return l },
	} {
		if same(l, change(read(t, "f(x, [1], -1) begin k: end"))) {
			t.Errorf("lists are the same after the change %d", i)
		}
	}
	if !same(tower(100, row(1)...), tower(100, row(1)...)) {
		t.Error("lists that are as deep as they may be are not the same")
	}
	if deep := tower(101); same(deep, deep) || same(deep, nil) || same(append(row(1), deep...), append(row(1), deep...)) {
		t.Error("lists that are too deep are the same")
	}
	if long := row(3 * api.MaxTokens); !same(long, slices.Clone(long)) || same(long, long[1:]) {
		t.Error("long lists are not compared")
	}
}

func TestP2_1SplitAndJoin(t *testing.T) {
	for _, x := range []struct{ text, sign, want string }{
		{"", ",", ""},
		{"a", ",", "a"},
		{"a, b", ",", "a|b"},
		{",", ",", "|"},
		{",a,,b,", ",", "|a||b|"},
		{"a, b; c", ";", "a , b|c"},
		{"f(x, y), [1, 2] , begin a, b end", ",", "f ‹( x , y›|‹[ 1 , 2›|‹begin a , b›"},
		{"a := b = c => d", "=", "a := b|c => d"},
		{"a b", "b", "a b"},
		{"(a) b", "(", "‹( a› b"},
		{"1 k: #t 1", "1", "1 k: #t 1"},
		{"1 k: #t", "", "1 k: #t"},
		{"begin end", "end", "‹begin›"},
	} {
		l := read(t, x.text)
		var got []string
		pieces := fragment.Split(l, x.sign)
		for _, p := range pieces {
			got = append(got, show(p))
		}
		if strings.Join(got, "|") != x.want || len(got) != strings.Count(x.want, "|")+1 {
			t.Errorf("Split(%q, %q) = %q; expected %s", x.text, x.sign, got, x.want)
		}
		if joined := fragment.Join(pieces, x.sign); !fragment.Same(joined, l) {
			t.Errorf("Join of Split(%q, %q) = %s", x.text, x.sign, show(joined))
		}
	}
	for _, l := range [][][]api.Frag{nil, {}, {nil}, {{}}} {
		if got := fragment.Join(l, ","); len(got) != 0 {
			t.Errorf("Join(%v) = %v", l, got)
		}
	}
	marked := []api.Frag{{Tok: api.Token{Kind: api.TkName, Text: "a", At: 3, Mark: 4}}}
	comma := api.Frag{Tok: sign(",")}
	if got, want := fragment.Join([][]api.Frag{nil, marked, nil, marked}, ","), []api.Frag{comma, marked[0], comma, comma, marked[0]}; !exactly(got, want) {
		t.Errorf("Join = %v; expected %v", got, want)
	}
	if got, want := fragment.Join([][]api.Frag{marked, marked}, "no sign"), []api.Frag{marked[0], {Tok: sign("no sign")}, marked[0]}; !exactly(got, want) {
		t.Errorf("Join with what is no sign = %v; expected %v", got, want)
	}
	if got := fragment.Split([]api.Frag{{Tok: name(",")}, {Tok: sign(","), Open: ","}, {Tok: api.Token{Kind: api.TkSign, Text: ",", At: 3, Mark: 9}}}, ","); len(got) != 2 || len(got[0]) != 2 || len(got[1]) != 0 {
		t.Errorf("Split at signs alone = %v", got)
	}
}

func TestP2_1At(t *testing.T) {
	l := read(t, "f(x, [1, 2])")
	for _, x := range []struct {
		path []int
		want string
	}{
		{[]int{0}, "f"},
		{[]int{1}, "‹( x , ‹[ 1 , 2››"},
		{[]int{1, 0}, "x"},
		{[]int{1, 2}, "‹[ 1 , 2›"},
		{[]int{1, 2, 2}, "2"},
		{nil, ""},
		{[]int{}, ""},
		{[]int{2}, ""},
		{[]int{-1}, ""},
		{[]int{math.MaxInt}, ""},
		{[]int{math.MinInt}, ""},
		{[]int{1, 3}, ""},
		{[]int{1, -1}, ""},
		{[]int{0, 0}, ""},
		{[]int{1, 2, 3}, ""},
		{[]int{1, 2, 2, 0}, ""},
		{[]int{2, 0}, ""},
		{[]int{1, 5, 0}, ""},
	} {
		f, e := fragment.At(l, x.path)
		if x.want == "" {
			if e != api.ErrNone || f.Open != "" || f.Tok != (api.Token{}) || f.Kids != nil {
				t.Errorf("At(%v) = %v, %v; expected ErrNone", x.path, f, e)
			}
		} else if e != api.OK || show([]api.Frag{f}) != x.want {
			t.Errorf("At(%v) = %v, %v; expected %s", x.path, f, e, x.want)
		}
		if m, e := fragment.Put(l, x.path, nil); (e == api.ErrNone) != (x.want == "") || e == api.ErrNone && m != nil {
			t.Errorf("Put(%v) = %v, %v", x.path, m, e)
		}
	}
	if _, e := fragment.At(nil, []int{0}); e != api.ErrNone {
		t.Errorf("At of nothing = %v", e)
	}
	if f, e := fragment.At(tower(500, row(1)...), make([]int, 501)); e != api.OK || f.Tok != name("x") {
		t.Errorf("At with a long path = %v, %v", f, e)
	}
}

func TestP2_1Put(t *testing.T) {
	for _, x := range []struct {
		path []int
		by   string
		want string
	}{
		{[]int{0}, "g", "g ‹( x , ‹[ 1 , 2›› ;"},
		{[]int{0}, "", "‹( x , ‹[ 1 , 2›› ;"},
		{[]int{0}, "a (b) c", "a ‹( b› c ‹( x , ‹[ 1 , 2›› ;"},
		{[]int{2}, "; end:", "f ‹( x , ‹[ 1 , 2›› ; end:"},
		{[]int{1}, "begin end", "f ‹begin› ;"},
		{[]int{1, 0}, "", "f ‹( , ‹[ 1 , 2›› ;"},
		{[]int{1, 0}, "f(x)", "f ‹( f ‹( x› , ‹[ 1 , 2›› ;"},
		{[]int{1, 2}, "a b", "f ‹( x , a b› ;"},
		{[]int{1, 2, 0}, "[]", "f ‹( x , ‹[ ‹[› , 2›› ;"},
		{[]int{1, 2, 2}, "3, 4", "f ‹( x , ‹[ 1 , 3 , 4›› ;"},
	} {
		l, by := read(t, "f(x, [1, 2]);"), read(t, x.by)
		got, e := fragment.Put(l, x.path, by)
		if e != api.OK || show(got) != x.want {
			t.Errorf("Put(%v, %s) = %s, %v; expected %s", x.path, x.by, show(got), e, x.want)
		}
		if show(l) != "f ‹( x , ‹[ 1 , 2›› ;" || !exactly(by, read(t, x.by)) {
			t.Errorf("Put(%v, %s) changes an argument", x.path, x.by)
		}
	}
	one := []int{0}
	for _, x := range []struct {
		what string
		l    []api.Frag
		path []int
		by   []api.Frag
		want api.Errno
	}{
		{"a path that leads nowhere, too deep", tower(101), nil, tower(101), api.ErrNone},
		{"a path that leads nowhere, too many", row(7000), []int{7000}, nil, api.ErrNone},
		{"as deep as may be", tower(60, row(1)...), make([]int, 61), tower(40), api.OK},
		{"too deep", tower(60, row(1)...), make([]int, 61), tower(41), api.ErrLarge},
		{"too deep elsewhere", append(row(1), tower(101)...), one, row(1), api.ErrLarge},
		{"no longer too deep", tower(101), one, row(1), api.OK},
		{"no longer too deep, by one", tower(101), make([]int, 101), nil, api.OK},
		{"a long path in what is too deep", tower(300), make([]int, 250), nil, api.ErrLarge},
		{"as many as may be", row(5000), one, row(1001), api.OK},
		{"too many", row(5000), one, row(1002), api.ErrLarge},
		{"as many as may be, in a group", tower(1, row(5000)...), []int{0, 4999}, row(999), api.OK},
		{"too many in a group", tower(1, row(5000)...), []int{0, 4999}, row(1000), api.ErrLarge},
		{"no longer too many", row(6001), one, nil, api.OK},
		{"far too many", row(9000), one, row(9000), api.ErrLarge},
	} {
		got, e := fragment.Put(x.l, x.path, x.by)
		if e != x.want || e != api.OK && got != nil || e == api.OK && (fragment.Depth(got) > api.MaxDeep || fragment.Size(got) > api.MaxTokens) {
			t.Errorf("%s: Put = %d fragments, %v; expected %v", x.what, len(got), e, x.want)
		}
	}
}

func TestP2_1Text(t *testing.T) {
	for _, x := range []struct{ text, want string }{
		{"", ""},
		{"f(x,[1])", "f ( x , [ 1 ] )"},
		{"{begin if a end end}", "{ begin if a end end }"},
		{"method m()1 end method m;", "method m ( ) 1 end ;"},
	} {
		if got := fragment.Text(read(t, x.text)); got != x.want {
			t.Errorf("Text(%q) = %q; expected %q", x.text, got, x.want)
		}
	}
	for _, bad := range []api.Token{{}, {Kind: api.TkName, Text: "a "}, {Kind: api.TkName, Text: "a", At: -1}, {Kind: api.TkNum, Text: "1"}} {
		for _, l := range [][]api.Frag{{{Tok: bad}}, {parens(api.Frag{Tok: bad})}, {{Tok: bad, Open: "begin"}}, append(row(3), api.Frag{Tok: bad})} {
			if got := fragment.Text(l); got != "" {
				t.Errorf("Text of %v = %q", l, got)
			}
		}
	}
	if got := fragment.Text([]api.Frag{{Tok: sign(")")}, {Tok: name("x"), Open: "x"}}); got != ") x end" {
		t.Errorf("Text of what cannot be read = %q", got)
	}
}

// TestP2_1ResultsAreNew: results share no memory with arguments, and lists of one result share none with each other.
func TestP2_1ResultsAreNew(t *testing.T) {
	const text = "f(x, [1, 2]), y(z)"
	spoil := func(l []api.Frag) {
		l = append(l, row(3)...)
		for i := range l {
			l[i].Tok = name("spoilt")
			for j := range l[i].Kids {
				l[i].Kids[j] = api.Frag{}
			}
			l[i].Kids = append(l[i].Kids, row(3)...)
		}
	}
	for what, spoilResult := range map[string]func(l []api.Frag){
		"Split": func(l []api.Frag) {
			pieces := fragment.Split(l, ",")
			before := show(pieces[1])
			spoil(pieces[0])
			if show(pieces[1]) != before {
				t.Error("Split: pieces share memory")
			}
			spoil(pieces[1])
		},
		"Join": func(l []api.Frag) { spoil(fragment.Join([][]api.Frag{l}, ",")) },
		"Join of one list": func(l []api.Frag) {
			joined := fragment.Join([][]api.Frag{l[1:2], l[1:2]}, ",")
			before := show(joined[2:])
			joined[0].Kids[0] = api.Frag{}
			if show(joined[2:]) != before {
				t.Error("Join: pieces share memory")
			}
			spoil(joined)
		},
		"At": func(l []api.Frag) {
			f, _ := fragment.At(l, []int{1})
			spoil(f.Kids)
		},
		"Put":         func(l []api.Frag) { m, _ := fragment.Put(l, []int{1, 0}, l[:1]); spoil(m); spoil(m[1].Kids) },
		"Put of a by": func(l []api.Frag) { m, _ := fragment.Put(row(1), []int{0}, l); spoil(m); spoil(m[1].Kids) },
		"Put beside":  func(l []api.Frag) { m, _ := fragment.Put(l, []int{0}, nil); spoil(m); spoil(m[0].Kids) },
	} {
		l := read(t, text)
		spoilResult(l)
		if !exactly(l, read(t, text)) {
			t.Errorf("the result of %s shares memory with its argument", what)
		}
	}
}
