package syntax

import "skerry/api"

// form says which fields an expression of a kind uses, and how many Args it has.
type form struct {
	name, num, typ, params, keys bool
	least, most                  int
}

// forms has the form of each kind of source expressions; a zero one for other kinds.
var forms = [...]form{
	api.ExNum:    {num: true},
	api.ExBool:   {num: true},
	api.ExVar:    {name: true},
	api.ExCall:   {least: 1, most: api.MaxArgs + 1},
	api.ExIf:     {least: 3, most: 3},
	api.ExLet:    {name: true, least: 2, most: 2},
	api.ExSeq:    {least: 2, most: api.MaxNodes},
	api.ExFn:     {params: true, least: 1, most: 1},
	api.ExBlock:  {name: true, least: 1, most: 2},
	api.ExHandle: {typ: true, least: 2, most: 2},
	api.ExNext:   {most: api.MaxParams},
	api.ExMake:   {keys: true, least: 1, most: api.MaxArgs + 1},
	api.ExPrim:   {name: true, least: 1, most: 2},
	api.ExIs:     {typ: true, least: 1, most: 1},
	api.ExLoad:   {num: true},
}

// fits reports whether the fields that the kind of an expression does not use are zero, and its Args as many as it has.
func fits(e api.Expr) bool {
	if e.Kind < 0 || e.Kind >= len(forms) || forms[e.Kind] == (form{}) {
		return false
	}
	f := forms[e.Kind]
	return (f.name || e.Name == "") && (f.num || e.Num == 0) && (f.typ || isZeroType(e.Type)) &&
		(f.params || len(e.Params) == 0) && (f.keys || len(e.Keys) == 0) &&
		f.least <= len(e.Args) && len(e.Args) <= f.most
}

// checkExpr refuses an expression that is not well-formed.
func checkExpr(e api.Expr) {
	if a, b, is := eitherOf(e); is {
		checkExpr(a)
		checkExpr(b)
		return
	}
	need(fits(e))
	switch e.Kind {
	case api.ExBool:
		need(e.Num == 0 || e.Num == 1)
	case api.ExVar, api.ExLet:
		need(isName(e.Name))
	case api.ExFn:
		checkParams(e.Params)
	case api.ExBlock:
		need(e.Name == "" || isName(e.Name))
	case api.ExMake:
		needOnly(e.Keys, len(e.Args)-1, isKey)
		need(len(e.Keys) == len(e.Args)-1)
	case api.ExPrim:
		need(operands(e.Name) == len(e.Args))
	case api.ExHandle, api.ExIs:
		checkType(e.Type)
	case api.ExLoad:
		need(e.Num >= 0)
	}
	for i, a := range e.Args {
		if i == 0 && isLocal(e) {
			a.Name = "" // it may be there, but fits does not know where a function stands
		}
		checkExpr(a)
	}
}

// operands returns how many operands a primitive operation has; 0 if there is none of this name.
func operands(name string) int {
	switch name {
	case "+", "-", "*", "quotient", "<", "<=", ">", ">=", "=", "==":
		return 2
	case "not", "print", "signal", "class-of":
		return 1
	}
	return 0
}

// isLocal reports whether an expression of as many Args as its kind has binds a function that has its Name: a local method.
func isLocal(e api.Expr) bool {
	return e.Kind == api.ExLet && e.Args[0].Kind == api.ExFn && e.Args[0].Name == e.Name
}

// eitherOf returns a and b of the tree of a | b, and whether an expression is one.
func eitherOf(e api.Expr) (a, b api.Expr, is bool) {
	if !isOr(e) {
		return api.Expr{}, api.Expr{}, false
	}
	return e.Args[0], e.Args[1].Args[2], true
}

// isOr reports whether an expression has the tree of a | b.
func isOr(e api.Expr) bool {
	if e.Kind != api.ExLet || e.Name != either || !fits(e) {
		return false
	}
	test := e.Args[1]
	if test.Kind != api.ExIf || !fits(test) {
		return false
	}
	for _, x := range test.Args[:2] {
		if x.Kind != api.ExVar || x.Name != either || !fits(x) {
			return false
		}
	}
	return true
}
