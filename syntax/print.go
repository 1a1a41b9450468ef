package syntax

import (
	"strings"

	"skerry/api"
	"skerry/lex"
)

// The levels of expressions behind those of binary operators.
const (
	prefixLevel = len(levels)
	callLevel   = prefixLevel + 1
)

// printed returns the text of a tree, and the error of its check, or of a text that is too long.
func printed[T any](tree T, check func(T) api.Errno, text func(T) string) (string, api.Errno) {
	if e := check(tree); e != api.OK {
		return "", e
	}
	s := text(tree)
	if len(s) > api.MaxText || strings.Count(s, " ")+1 > api.MaxTokens {
		return "", api.ErrLong
	}
	return s, api.OK
}

// line returns texts, but for empty ones, with a space between two of them.
func line(texts ...string) string {
	var l []string
	for _, s := range texts {
		if s != "" {
			l = append(l, s)
		}
	}
	return strings.Join(l, " ")
}

// listed returns the texts of items with a sign between two of them.
func listed[T any](sign string, text func(T) string, items ...T) string {
	var l []string
	for _, x := range items {
		l = append(l, text(x))
	}
	return strings.Join(l, " "+sign+" ")
}

// itself is the text of a name.
func itself(name string) string { return name }

// only returns a text, or an empty one.
func only(is bool, text string) string {
	if is {
		return text
	}
	return ""
}

func sourceText(s api.Source) string {
	head := "library"
	if s.Patch {
		head = "patch"
	}
	l := []string{head, s.Name, ";"}
	for _, u := range s.Uses {
		l = append(l, useText(u), ";")
	}
	if len(s.Exports) > 0 {
		l = append(l, "export", listed(",", itself, s.Exports...), ";")
	}
	for _, d := range s.Defs {
		l = append(l, "define", defText(d), ";")
	}
	for _, e := range s.Main {
		l = append(l, exprText(e), ";")
	}
	return line(l...)
}

func useText(u api.Use) string {
	if !u.All {
		return line("use", u.Lib, ", import: {", listed(",", renameText, u.Names...), "}")
	}
	return line("use", u.Lib, only(u.Prefix != "", ", prefix: "+u.Prefix))
}

func renameText(r api.Rename) string { return line(r.From, "=>", r.To) }

func defText(d api.Def) string {
	switch d.Kind {
	case api.DfClass:
		return classText(d.Class)
	case api.DfGeneric:
		params := []string{"a", "b", "c", "d", "e", "f"}[:d.Generic.Arity]
		return line(only(d.Generic.Sealed, "sealed"), "generic", d.Generic.Name, "(", listed(",", itself, params...), ")")
	case api.DfMethod:
		m := d.Method
		result := only(!isObject(m.Result), "=> "+typeText(m.Result))
		return line("method", m.Generic, paramsText(m.Params), result, bodyText(m.Body), "end")
	case api.DfDomain:
		return line("sealed domain", d.Domain.Generic, "(", listed(",", typeText, d.Domain.Types...), ")")
	}
	return line("constant", d.Name, "=", exprText(d.Body))
}

func classText(c api.ClassDef) string {
	l := []string{only(c.Abstract, "abstract"), only(c.Sealed, "sealed"), "class", c.Name, "(", listed(",", itself, c.Supers...), ")"}
	for _, s := range c.Slots {
		l = append(l, slotText(s), ";")
	}
	return line(append(l, "end")...)
}

func slotText(s api.Slot) string {
	word := ""
	switch s.Alloc {
	case api.SlClass:
		word = "class"
	case api.SlEach:
		word = "each-subclass"
	case api.SlVirt:
		word = "virtual"
	}
	l := []string{word, "slot", typedText(s.Name, s.Type), only(s.Key != "", ", init-keyword: "+s.Key+":")}
	for _, e := range s.Init {
		l = append(l, ", init-value:", exprText(e))
	}
	return line(l...)
}

func paramsText(l []api.Param) string { return line("(", listed(",", paramText, l...), ")") }

func paramText(p api.Param) string { return typedText(p.Name, p.Type) }

// typedText returns a name with its type, unless this may be left out.
func typedText(name string, t api.Type) string {
	return line(name, only(!isObject(t), ":: "+typeText(t)))
}

// isObject reports whether a type is the one that stands for none.
func isObject(t api.Type) bool { return t.Kind == api.TyClass && t.Name == object }

func typeText(t api.Type) string {
	switch t.Kind {
	case api.TyInt:
		return line("limited (", lex.Digits(t.Lo), ",", lex.Digits(t.Hi), ")")
	case api.TyBool:
		return line("singleton (", boolText(t.Lo), ")")
	case api.TySub:
		return line("subclass (", t.Name, ")")
	case api.TyUnion:
		return line("type-union (", listed(",", typeText, t.Args...), ")")
	}
	return t.Name
}

func boolText(n int) string {
	if n == 0 {
		return "#f"
	}
	return "#t"
}

// exprText returns the text of an expression where an expr of the grammar may stand.
func exprText(e api.Expr) string {
	if a, b, is := eitherOf(e); is {
		return line(operandText(a, 0), "|", operandText(b, 1))
	}
	switch e.Kind {
	case api.ExNum:
		return numberText(e.Num)
	case api.ExBool:
		return boolText(e.Num)
	case api.ExVar:
		return e.Name
	case api.ExCall:
		return line(operandText(e.Args[0], callLevel), argsText(e.Args[1:]...))
	case api.ExIf:
		return line("if", argsText(e.Args[0]), bodyText(e.Args[1]), "else", bodyText(e.Args[2]), "end")
	case api.ExFn:
		return line("method", e.Name, paramsText(e.Params), bodyText(e.Args[0]), "end")
	case api.ExBlock:
		return line("block (", e.Name, ")", listed("cleanup", bodyText, e.Args...), "end")
	case api.ExNext:
		return line("next-method", argsText(e.Args...))
	case api.ExMake:
		return makeText(e)
	case api.ExPrim:
		return primText(e)
	case api.ExIs:
		return line("instance? (", exprText(e.Args[0]), ",", typeText(e.Type), ")")
	case api.ExLoad:
		return line("load-patch (", lex.Digits(e.Num), ")")
	}
	return line("begin", bodyText(e), "end")
}

// numberText returns the text of an integer. One below 0 is put in parentheses: behind a name, or another parenthesis, it would be read as an operator and an integer.
func numberText(n int) string {
	if n < 0 {
		return line("(", lex.Digits(n), ")")
	}
	return lex.Digits(n)
}

func argsText(l ...api.Expr) string { return line("(", listed(",", exprText, l...), ")") }

func makeText(e api.Expr) string {
	l := []string{"make (", exprText(e.Args[0])}
	for i, key := range e.Keys {
		l = append(l, ",", key+":", exprText(e.Args[i+1]))
	}
	return line(append(l, ")")...)
}

func primText(e api.Expr) string {
	switch level := levelOf(e); level {
	case prefixLevel:
		return line("~", operandText(e.Args[0], level))
	case callLevel:
		return line(wordOf(e.Name), argsText(e.Args...))
	default:
		return line(operandText(e.Args[0], level), wordOf(e.Name), operandText(e.Args[1], level+1))
	}
}

// wordOf returns the word, or the sign, by which a primitive operation is written.
func wordOf(prim string) string {
	switch prim {
	case "quotient":
		return "/"
	case "class-of":
		return "object-class"
	}
	return prim
}

// levelOf returns the level at which an expression is written.
func levelOf(e api.Expr) int {
	if isOr(e) {
		return 0
	}
	if e.Kind != api.ExPrim {
		return callLevel
	}
	if e.Name == "not" {
		return prefixLevel
	}
	word := wordOf(e.Name)
	for level, signs := range levels {
		for _, sign := range signs {
			if sign == word {
				return level
			}
		}
	}
	return callLevel
}

// operandText returns the text of an expression where one of a level, or of a further one, may stand.
func operandText(e api.Expr, level int) string {
	if levelOf(e) < level {
		return line("(", exprText(e), ")")
	}
	return exprText(e)
}

// bodyText returns the text of an expression where a body of the grammar may stand: its statements.
func bodyText(e api.Expr) string {
	switch {
	case e.Kind == api.ExSeq:
		last := len(e.Args) - 1
		return line(listed(";", exprText, e.Args[:last]...), ";", lastText(e.Args[last]))
	case e.Kind == api.ExHandle:
		return line("let handler", typeText(e.Type), "=", exprText(e.Args[0]), ";", bodyText(e.Args[1]))
	case e.Kind != api.ExLet || isOr(e):
		return exprText(e)
	case isLocal(e):
		return line("local", exprText(e.Args[0]), ";", bodyText(e.Args[1]))
	}
	return line("let", e.Name, "=", exprText(e.Args[0]), ";", bodyText(e.Args[1]))
}

// lastText returns the text of the last expression of a sequence. (The statements of another sequence would be taken for those of this one.)
func lastText(e api.Expr) string {
	if e.Kind == api.ExSeq {
		return exprText(e)
	}
	return bodyText(e)
}
