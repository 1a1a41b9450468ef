package syntax_test

import (
	"strings"
	"testing"

	"skerry/api"
	"skerry/syntax"
)

func TestP4_1Marks(t *testing.T) {
	for _, x := range []struct{ text, want string }{
		{"x", "x"},
		{"x'1", "x@0"},
		{"x'9223372036854775807", "x@0"},
		{"f'1 ( x'2 , y )", "(call f@0 x@0 y)"},
		{"a . b'1", "(call b@0 a)"},
		{"<a>'1", "<a>@0"},
		{"( x'3 )", "x@0"},
		{"begin'1 x end'2", "x"},
		{"1'3", "1"},
		{"#t'3", "#t"},

		{"begin let x'1 = x'1 ; x'1 end", "(let x@1 x@0 x@1)"},
		{"begin let x'1 = 1 ; x end", "(let x@1 1 x)"},
		{"begin let x = 1 ; x'1 end", "(let x 1 x@0)"},
		{"begin let x'1 = 1 ; x'2 end", "(let x@1 1 x@0)"},
		{"begin let x'1 = 1 ; let x'2 = 2 ; f ( x , x'1 , x'2 , x'3 ) end", "(let x@1 1 (let x@2 2 (call f x x@1 x@2 x@0)))"},
		{"begin let x'1 = 1 ; let x'1 = x'1 ; x'1 end", "(let x@1 1 (let x@1 x@1 x@1))"},
		{"begin begin let x'1 = 1 ; x'1 end ; x'1 end", "(seq (let x@1 1 x@1) x@0)"},
		{"begin let x'1 = 1 ; begin let x'1 = 2 ; x'1 end ; x'1 end", "(let x@1 1 (seq (let x@1 2 x@1) x@1))"},
		{"begin x'1 ; let x'1 = 1 ; x'1 end", "(seq x@0 (let x@1 1 x@1))"},
		{"begin let x'1 = 1 ; a . x'1 end", "(let x@1 1 (call x@1 a))"},
		{"begin let x'1 = 1 ; method ( ) x'1 end end", "(let x@1 1 (fn [] x@1))"},
		{"begin let x'12 = 1 ; a & x'12 | x'12 end", "(let x@12 1 (let %| (if a x@12 #f) (if %| %| x@12)))"},
		{"begin let x'1 = 1 ; x'1 end . x'1", "(call x@0 (let x@1 1 x@1))"},
		{"begin'1 let'1 x'1 ='1 1 ;'1 x'1 end'1", "(let x@1 1 x@1)"},

		{"begin local method f'1 ( ) f'1 ( ) end ; f'1 end", "(let f@1 (fnf@1 [] (call f@1)) f@1)"},
		{"begin local method f'1 ( f'1 ) f'1 end ; f'1 end", "(let f@1 (fnf@1 [f@1] f@1) f@1)"},
		{"begin local method f'1 ( x'1 ) f end ; x'1 end", "(let f@1 (fnf@1 [x@1] f) x@0)"},
		{"begin f'1 ; begin local method f'1 ( ) 1 end end ; f'1 end", "(seq f@0 (let f@1 (fnf@1 [] 1) #f) f@0)"},
		{"begin local method f ( ) f'1 end ; f'1 end", "(let f (fnf [] f@0) f@0)"},

		{"method ( x'1 , y'2 , x ) f ( x'1 , y'1 , y'2 , x , y ) end", "(fn [x@1 y@2 x] (call f x@1 y@0 y@2 x y))"},
		{"begin method ( x'1 ) 1 end ; x'1 end", "(seq (fn [x@1] 1) x@0)"},
		{"method ( x'1 :: x'1 , y'1 :: subclass ( y'2 ) ) 1 end", "(fn [x@1:x y@1:sub:y] 1)"},
		{"instance? ( <a>'1 , <a>'1 )", "(is <a> <a>@0)"},
		{"make ( <a>'1 , k:'1 1 )", "(make [k] <a>@0 1)"},

		{"block ( k'1 ) k'1 ( ) cleanup k'1 end", "(blockk@1 (call k@1) k@0)"},
		{"block ( k'1 ) let x'1 = k'1 ; x'1 cleanup x'1 end", "(blockk@1 (let x@1 k@1 x@1) x@0)"},
		{"begin let handler <e>'1 = h'1 ; h'1 end", "(handle <e> h@0 h@0)"},
		{"begin let h'1 = 1 ; let handler <e> = h'1 ; h'1 end", "(let h@1 1 (handle <e> h@1 h@1))"},
		{"begin let h'1 = 1 ; let handler <e> = begin let h'1 = 2 ; 3 end ; h'1 end", "(let h@1 1 (handle <e> (let h@1 2 3) h@1))"},
		{"if ( begin let x'1 = 1 ; x'1 end ) x'1 else x'1 end", "(if (let x@1 1 x@1) x@0 x@0)"},

		{"p . x'1 := 3", "(call x-setter@0 3 p)"},
		{"begin let x'1 = f ; p . x'1 := 3 end", "(let x@1 f (call x-setter@0 3 p))"},
		{"begin let x-setter'1 = f ; let x'1 = g ; p . x'1 := 3 end", "(let x-setter@1 f (let x@1 g (call x-setter@1 3 p)))"},
		{"begin let x-setter'2 = f ; let x'1 = g ; p . x'1 := 3 end", "(let x-setter@2 f (let x@1 g (call x-setter@0 3 p)))"},
		{"begin let x-setter = f ; let x'1 = g ; p . x'1 := 3 end", "(let x-setter f (let x@1 g (call x-setter@0 3 p)))"},
		{"begin let x-setter'1 = f ; p . x'1 := 3 end", "(let x-setter@1 f (call x-setter@0 3 p))"}, // x is not bound: its Name is x@0
		{"begin begin let x-setter'1 = f end ; let x'1 = g ; p . x'1 := 3 end", "(seq (let x-setter@1 f #f) (let x@1 g (call x-setter@0 3 p)))"},
		{"begin let x'1 = f ; p . x := 3 end", "(let x@1 f (call x-setter 3 p))"},
		{"begin let x-setter = f ; p . x := 3 end", "(let x-setter f (call x-setter 3 p))"},
		{"p . x@3 := 4", "(call x-setter@0 4 p)"},
		{"p . x@0 := 4", "(call x-setter@0 4 p)"},
		{"p . x@03 := 4", "(call x-setter@03 4 p)"},
		{"p . x@3a := 4", "(call x-setter@3a 4 p)"},
		{"p . x@99999999999999999999 := 4", "(call x-setter@99999999999999999999 4 p)"},
		{"begin let x-setter@3 = f ; p . x@3 := 4 end", "(let x-setter@3 f (call x-setter@3 4 p))"},
		{"begin let x-setter'3 = f ; p . x@3 := 4 end", "(let x-setter@3 f (call x-setter@3 4 p))"},
		{"begin let x-setter@3 = f ; let x'3 = g ; p . x'3 := 4 end", "(let x-setter@3 f (let x@3 g (call x-setter@3 4 p)))"},
		{"begin let x-setter@l = f ; p . x@l := 4 end", "(let x-setter@l f (call x-setter@l 4 p))"},

		// A variable that is written with an @ has another Text.
		{"begin let x@3 = 1 ; f ( x@3 , x'3 ) end", "(let x@3 1 (call f x@3 x@0))"},
		{"begin let x'3 = 1 ; f ( x@3 , x'3 ) end", "(let x@3 1 (call f x@3 x@3))"},
	} {
		if got := show(expr(t, x.text)); got != x.want {
			t.Errorf("ParseExpr(%q) = %s; expected %s", x.text, got, x.want)
		}
	}
}

func TestP4_1MarksOfDefinitions(t *testing.T) {
	for _, x := range []struct{ text, want string }{
		{"define constant c'1 = c'1 ;", "c = c@0"},
		{"define constant c = begin let c'1 = 1 ; c'1 end ;", "c = (let c@1 1 c@1)"},
		{"define method f'1 ( x'1 , y :: <a>'1 ) => <b>'1 f'1 ( x'1 , y ) end ;", "f [x@1 y:<a>] <b> (call f@0 x@1 y)"},
		{"define method f ( x'1 ) x'1 end ; define method g ( ) x'1 end ;", "f [x@1] <object> x@1; g [] <object> x@0"},
		{"define sealed method f ( x'1 ) x'1 end ;", "f [x@1] <object> x@1; f <object>"},
		{"define sealed domain f'1 ( <a>'1 ) ;", "f <a>"},
		{"define class c'1 ( d'1 ) slot x'1 :: t'1 , init-value: x'1 , init-keyword: k:'1 ; end ;", "c d x t k x@0"},
	} {
		var l []string
		for _, d := range source(t, "library a'5 ; "+x.text).Defs {
			switch d.Kind {
			case api.DfConst:
				l = append(l, d.Name+" = "+show(d.Body))
			case api.DfMethod:
				l = append(l, d.Method.Generic+" "+showParams(d.Method.Params)+" "+showType(d.Method.Result)+" "+show(d.Method.Body))
			case api.DfDomain:
				l = append(l, d.Domain.Generic+" "+showType(d.Domain.Types[0]))
			case api.DfClass:
				c := d.Class
				l = append(l, strings.Join([]string{c.Name, c.Supers[0], c.Slots[0].Name, showType(c.Slots[0].Type), c.Slots[0].Key, show(c.Slots[0].Init[0])}, " "))
			}
		}
		if got := strings.Join(l, "; "); got != x.want {
			t.Errorf("%q is parsed as %s; expected %s", x.text, got, x.want)
		}
	}
}

func TestP4_1MarksErrors(t *testing.T) {
	for _, x := range []struct {
		text string
		at   int
		want api.Errno
	}{
		{"x@l'1", 0, api.ErrParse},
		{"x@0'1", 0, api.ErrParse},
		{"a . x@l'1", 2, api.ErrParse},
		{"f ( x@l'1 )", 2, api.ErrParse},
		{"begin let x@l'1 = 1 end", 2, api.ErrParse},
		{"begin local method x@l'1 ( ) 1 end end", 3, api.ErrParse},
		{"method ( x@l'1 ) 1 end", 2, api.ErrParse},
		{"block ( x@l'1 ) 1 end", 2, api.ErrParse},
		{"1 + x@l'1", 2, api.ErrParse},
		{"begin x@l'1 end", 1, api.ErrParse},
		{"let'1", 0, api.ErrReserve},
		{"instance? ( 1 , x@l'1 )", 0, api.OK},
		{"p . x'1 := 2", 0, api.OK},
		{"begin let abcdefghijklmnopqrstuvwxyz-abcde'1 = f ; p . abcdefghijklmnopqrstuvwxyz-abcde'1 := 2 end", 9, api.ErrParse},     // the setter of the Name has 41 bytes
		{"begin let abcdefghijklmnopqrstuvwxyz-abcd'1 = f ; p . abcdefghijklmnopqrstuvwxyz-abcd'1 := 2 end", 0, api.OK},             // 40
		{"begin let abcdefghijklmnopqrstuvwxyz-abcdefghijkl'1 = 1 ; 2 end", 8, api.ErrForm},                                         // 41 bytes
		{"begin let abcdefghijklmnopqrstuvwxyz-abcdefghijk'1 = 1 ; 2 end", 0, api.OK},                                               // 40
		{"abcdefghijklmnopqrstuvwxyz-abcdefghijkl'1", 1, api.ErrForm},                                                               // 41
		{"abcdefghijklmnopqrstuvwxyz-abcdefghijk'10000", 0, api.OK},                                                                 // 40
		{"begin let abcdefghijklmnopqrstuvwxyz-abcdefghijk'10 = 1 ; abcdefghijklmnopqrstuvwxyz-abcdefghijk'10 end", 8, api.ErrForm}, // 41
		{"method ( x'1 , x'1 ) 1 end", 8, api.ErrForm},
		{"method ( x'1 , x'2 , x ) 1 end", 0, api.OK},
		{"method ( x'1 , x@1 ) 1 end", 8, api.ErrForm},
	} {
		if _, at, e := syntax.ParseExpr(marked(t, x.text)); at != x.at || e != x.want {
			t.Errorf("ParseExpr(%q) = %d, %v; expected %d, %v", x.text, at, e, x.at, x.want)
		}
	}
}
