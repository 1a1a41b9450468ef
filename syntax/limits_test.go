package syntax_test

import (
	"strings"
	"testing"

	"skerry/api"
	"skerry/syntax"
)

// repeat returns a text that begins with n times a front, and ends with n times a back.
func repeat(n int, front, middle, back string) string {
	return strings.Repeat(front+" ", n) + middle + strings.Repeat(" "+back, n)
}

const most = 2 * api.MaxDeep

// TestP4_1Deep: the expression, operand or type that would be one too many within each other is ErrDeep where it begins.
func TestP4_1Deep(t *testing.T) {
	for _, x := range []struct {
		what, text string
		at         int
		want       api.Errno
	}{
		{"parentheses", repeat(most-1, "(", "x", ")"), 0, api.OK},
		{"parentheses, too deep", repeat(most, "(", "x", ")"), most, api.ErrDeep},
		{"parentheses around parentheses, too deep", repeat(most+1, "(", "x", ")"), most, api.ErrDeep},
		{"prefix operators", repeat(99, "~", "x", ""), 0, api.OK},
		{"prefix operators, a tree too deep", repeat(most-1, "~", "x", ""), most, api.ErrDeep},
		{"prefix operators, too deep", repeat(most, "~", "x + )", ""), most, api.ErrDeep},
		{"signs, a tree too deep", repeat(most-1, "-", "x", ""), most, api.ErrDeep},
		{"signs, too deep", repeat(most, "-", "x )", ""), most, api.ErrDeep},
		{"prefix operators one behind the other", "begin" + strings.Repeat(" ~ - x ;", most) + " end", 0, api.OK},
		{"parentheses one behind the other", "begin" + strings.Repeat(" ( x ) ;", most) + " end", 0, api.OK},
		{"prefix operators and parentheses", repeat(99, "~ (", "x", ")"), 0, api.OK},
		{"prefix operators and parentheses, too deep", repeat(100, "~ (", "x", ")"), most, api.ErrDeep},
		{"arguments", repeat(99, "f (", "x", ")"), 0, api.OK},
		{"arguments, too deep", repeat(most, "f (", "x", ")"), 2 * most, api.ErrDeep},
		{"no arguments, not too deep", repeat(most-1, "(", "f ( )", ")"), 0, api.OK},
		{"bodies", repeat(most-1, "begin", "x", "end"), 0, api.OK},
		{"bodies, too deep", repeat(most, "begin", "x", "end"), most, api.ErrDeep},
		{"empty bodies", repeat(most-1, "begin", "begin end", "end"), 0, api.OK},
		{"statements that are not deep", repeat(most-1, "begin", "local method f () end ; let", "end"), most + 7, api.ErrReserve},
		{"a let, too deep", repeat(most-1, "begin", "begin let x = y end", "end"), most + 3, api.ErrDeep},
		{"a local method, too deep", repeat(most-1, "begin", "begin local method x () y end end", "end"), most + 5, api.ErrDeep},
		{"a handler", repeat(most-1, "begin", "begin let handler <e> = x", "end"), most + 4, api.ErrDeep},
		{"assignments, a tree too deep", repeat(most-1, "p . x :=", "y", ""), 4*most - 3, api.ErrDeep},
		{"assignments, too deep", repeat(most, "p . x :=", "y )", ""), 4 * most, api.ErrDeep},
		{"else", repeat(99, "if ( x ) else", "y", "end"), 0, api.OK},
		{"else, too deep", repeat(most, "if ( x ) else", "y", "end"), 5*(most-1) + 2, api.ErrDeep},
		{"elseif, which is not deep", "if ( x ) " + strings.Repeat("elseif ( x ) ", 98) + "end", 0, api.OK},
		{"elseif, a tree too deep", "if ( x ) " + strings.Repeat("elseif ( x ) ", most) + "end", 4*most + 5, api.ErrDeep},
		{"binary operators", "x" + strings.Repeat(" + x", 99), 0, api.OK},
		{"binary operators, a tree too deep", "x" + strings.Repeat(" + x", 100), 201, api.ErrDeep},
		{"calls, a tree too deep", "f" + strings.Repeat(" ( )", most), 2*most + 1, api.ErrDeep},
		{"lets, a tree too deep", "begin " + strings.Repeat("let x = 1 ; ", most) + "end", 5*most + 2, api.ErrDeep},
		{"lets", "begin " + strings.Repeat("let x = 1 ; ", 99) + "end", 0, api.OK},
		{"very many lets", "begin " + strings.Repeat("let x = 1 ; ", 1199) + "end", 5997, api.ErrDeep},
		{"functions", repeat(100, "method ( x )", "", "end"), 100 * 5, api.ErrDeep},
		{"functions, as deep as they may be", repeat(99, "method ( x )", "", "end"), 0, api.OK},

		// An error that is named ahead of ErrDeep, at the same token.
		{"nothing, too deep", strings.Repeat("( ", most), most, api.ErrParse},
		{"a closing parenthesis, too deep", repeat(most, "(", "", ")"), most, api.ErrParse},
		{"a reserved word, too deep", repeat(most, "(", "let", ")"), most, api.ErrReserve},
		{"a word that is no name, too deep", repeat(most, "(", "begin", ")"), most, api.ErrDeep},
		{"a marked qualified name, too deep", repeat(most, "(", "x@l'1", ")"), most, api.ErrParse},
		{"an operator, too deep", repeat(most, "~", "+", ""), most, api.ErrParse},
		{"a reserved word behind operators, too deep", repeat(most, "-", "let", ""), most, api.ErrReserve},
	} {
		y, at, e := syntax.ParseExpr(marked(t, x.text))
		if at != x.at || e != x.want || e != api.OK && !exactly(y, api.Expr{}) {
			t.Errorf("%s: ParseExpr = %d, %v; expected %d, %v", x.what, at, e, x.at, x.want)
		}
	}
}

func TestP4_1DeepTypes(t *testing.T) {
	for _, x := range []struct {
		what, text string
		at         int
		want       api.Errno
	}{
		{"unions", repeat(99, "type-union (", "<a>", ")"), 0, api.OK},
		{"a union in unions", repeat(99, "type-union (", "type-union ( )", ")"), 0, api.OK},
		{"unions, a type too deep", repeat(100, "type-union (", "<a>", ")"), 301, api.ErrDeep},
		{"unions that may be parsed", repeat(most-1, "type-union (", "<a>", ")"), 3*(most-1) + 1, api.ErrDeep},
		{"unions, too deep", repeat(most, "type-union (", "<a>", ")"), 2 * most, api.ErrDeep},
		{"unions, too deep, with another word", repeat(most, "type-union (", "limited", ")"), 2 * most, api.ErrDeep},
		{"no type, too deep", repeat(most, "type-union (", "1", ")"), 2 * most, api.ErrParse},
		{"a reserved word, too deep", repeat(most, "type-union (", "let", ")"), 2 * most, api.ErrReserve},
		{"none, too deep", repeat(most, "type-union (", "", ")"), 3 * most, api.ErrDeep},
	} {
		y, at, e := syntax.ParseType(scan(t, x.text))
		if at != x.at || e != x.want || e != api.OK && !exactly(y, api.Type{}) {
			t.Errorf("%s: ParseType = %d, %v; expected %d, %v", x.what, at, e, x.at, x.want)
		}
	}
	// Types within an expression, and expressions ahead of and behind others, do not add up.
	text := repeat(99, "(", "instance? ( x , "+repeat(99, "type-union (", "<a>", ")")+" )", ")")
	expr(t, text)
	expr(t, "f ( "+text+" , "+text+" ) + "+text)
	source(t, "library a ; define constant x = "+text+" ; define constant y = "+text+" ; "+text)
}

func TestP4_1Long(t *testing.T) {
	text := "library a ; f (" + strings.Repeat(" x ,", (api.MaxTokens-7)/2) + " x )"
	l := scan(t, text)
	if len(l) != api.MaxTokens-1 {
		t.Fatalf("there are %d tokens", len(l))
	}
	l = append(l, api.Token{Kind: api.TkSign, Text: ";"})
	if s, at, e := syntax.ParseTokens(l); !exactly(s, api.Source{}) || at != api.MaxTokens || e != api.ErrForm { // 2998 arguments
		t.Errorf("ParseTokens of %d tokens = %+v, %d, %v; expected ErrForm", len(l), s, at, e)
	}
	l = append(l, l[0])
	for i := range 2 {
		if s, at, e := syntax.ParseTokens(l); !exactly(s, api.Source{}) || at != 0 || e != api.ErrLong {
			t.Errorf("%d: ParseTokens of %d tokens = %+v, %d, %v; expected ErrLong", i, len(l), s, at, e)
		}
		if x, at, e := syntax.ParseExpr(l); !exactly(x, api.Expr{}) || at != 0 || e != api.ErrLong {
			t.Errorf("%d: ParseExpr of %d tokens = %+v, %d, %v; expected ErrLong", i, len(l), x, at, e)
		}
		if x, at, e := syntax.ParseType(l); !exactly(x, api.Type{}) || at != 0 || e != api.ErrLong {
			t.Errorf("%d: ParseType of %d tokens = %+v, %d, %v; expected ErrLong", i, len(l), x, at, e)
		}
		clear(l) // none is valid now
	}
	// Expressions and types that are too many, or too deep, are found behind the last token.
	body := "begin " + strings.Repeat("a + b ; ", 999)
	if x, at, e := syntax.ParseExpr(scan(t, body+"c end")); len(x.Args) != 1000 || at != 0 || e != api.OK { // 2999
		t.Errorf("ParseExpr of 2999 expressions = %d, %v", at, e)
	}
	if _, at, e := syntax.ParseExpr(scan(t, body+"~ c end")); at != 0 || e != api.OK { // 3000
		t.Errorf("ParseExpr of 3000 expressions = %d, %v", at, e)
	}
	if x, at, e := syntax.ParseExpr(scan(t, body+"~ ~ c end")); !exactly(x, api.Expr{}) || at != 4*999+5 || e != api.ErrLong {
		t.Errorf("ParseExpr of 3001 expressions = %d, %v; expected ErrLong", at, e)
	}
}
