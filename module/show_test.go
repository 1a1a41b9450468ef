package module_test

import (
	"fmt"
	"strings"
	"testing"

	"skerry/api"
	"skerry/lex"
	"skerry/syntax"
)

// source parses the text of a source.
func source(t *testing.T, text string) api.Source {
	t.Helper()
	l, at, e := lex.Scan(text)
	if e != api.OK {
		t.Fatalf("Scan of %q = %d, %v", text, at, e)
	}
	s, at, e := syntax.ParseTokens(l)
	if e != api.OK {
		t.Fatalf("ParseTokens of %q = %d, %v", text, at, e)
	}
	return s
}

// expr parses the text of an expression.
func expr(t *testing.T, text string) api.Expr {
	t.Helper()
	l, _, _ := lex.Scan(text)
	x, at, e := syntax.ParseExpr(l)
	if e != api.OK {
		t.Fatalf("ParseExpr of %q = %d, %v", text, at, e)
	}
	return x
}

// typ parses the text of a type.
func typ(t *testing.T, text string) api.Type {
	t.Helper()
	l, _, _ := lex.Scan(text)
	x, at, e := syntax.ParseType(l)
	if e != api.OK {
		t.Fatalf("ParseType of %q = %d, %v", text, at, e)
	}
	return x
}

// entries reads entries that are written like "<a>=<a>@l f=f@l/2 c=c@l!": classes, generic functions with their arities, constants.
func entries(text string) []api.Export {
	var l []api.Export
	for _, x := range strings.Fields(text) {
		name, full, _ := strings.Cut(x, "=")
		y := api.Export{Name: name, Full: full, Kind: api.DfClass}
		if f, arity, is := strings.Cut(full, "/"); is {
			y.Full, y.Kind = f, api.DfGeneric
			fmt.Sscan(arity, &y.Arity)
		}
		if c, is := strings.CutSuffix(full, "!"); is {
			y.Full, y.Kind = c, api.DfConst
		}
		l = append(l, y)
	}
	return l
}

// show writes entries as entries reads them.
func show(l []api.Export) string {
	var out []string
	for _, x := range l {
		text := x.Name + "=" + x.Full
		switch x.Kind {
		case api.DfClass:
		case api.DfGeneric:
			text += fmt.Sprint("/", x.Arity)
		case api.DfConst:
			text += "!"
		default:
			text += fmt.Sprintf("?%d", x.Kind)
		}
		out = append(out, text)
	}
	return strings.Join(out, " ")
}

// geo is the face of the examples.
func geo() []api.Face {
	return []api.Face{{Lib: "geo", Names: entries("<shape>=<shape>@geo area=area@geo/1")}}
}

// exactly reports whether values are equal, where nil lists and empty ones are the same.
func exactly(a, b any) bool { return fmt.Sprintf("%+v", a) == fmt.Sprintf("%+v", b) }

func showType(t api.Type) string {
	text, e := syntax.PrintType(t)
	if e != api.OK {
		return fmt.Sprintf("%+v", t)
	}
	return text
}

// showExpr returns the text of an expression, or of the body of an accessor.
func showExpr(x api.Expr) string {
	if x.Kind == api.ExSlot || x.Kind == api.ExSet {
		l := []string{map[int]string{api.ExSlot: "get", api.ExSet: "set"}[x.Kind], x.Name}
		for _, a := range x.Args {
			l = append(l, showExpr(a))
		}
		return strings.Join(l, " ")
	}
	text, e := syntax.PrintExpr(x)
	if e != api.OK {
		return fmt.Sprintf("%+v", x)
	}
	return text
}

func showClass(c api.ClassDef) string {
	text := "class " + c.Name + " of " + strings.Join(c.Supers, " ")
	if c.Abstract {
		text += " abstract"
	}
	if c.Sealed {
		text += " sealed"
	}
	for _, s := range c.Slots {
		text += fmt.Sprintf("; %d %s :: %s", s.Alloc, s.Name, showType(s.Type))
		if s.Key != "" {
			text += " " + s.Key + ":"
		}
		for _, x := range s.Init {
			text += " = " + showExpr(x)
		}
	}
	return text
}

// showDef returns a definition as a text. (Fields that its kind does not use are not in it.)
func showDef(d api.Def) string {
	switch d.Kind {
	case api.DfClass:
		return showClass(d.Class)
	case api.DfGeneric:
		text := fmt.Sprintf("generic %s %d", d.Generic.Name, d.Generic.Arity)
		if d.Generic.Sealed {
			text += " sealed"
		}
		return text
	case api.DfMethod:
		text := "method " + d.Method.Generic
		for _, p := range d.Method.Params {
			text += fmt.Sprintf(" (%s :: %s)", p.Name, showType(p.Type))
		}
		return text + " => " + showType(d.Method.Result) + ": " + showExpr(d.Method.Body)
	case api.DfDomain:
		text := "domain " + d.Domain.Generic
		for _, u := range d.Domain.Types {
			text += " (" + showType(u) + ")"
		}
		return text
	case api.DfConst:
		return "constant " + d.Name + " = " + showExpr(d.Body)
	}
	return fmt.Sprintf("%+v", d)
}

func showDefs(l []api.Def) []string {
	var out []string
	for _, d := range l {
		out = append(out, showDef(d))
	}
	return out
}
