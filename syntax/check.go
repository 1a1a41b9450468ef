package syntax

import (
	"slices"
	"strings"

	"skerry/api"
	"skerry/lex"
)

// checked returns the error of a tree, given what counts its expressions and types, and what refuses a form that is not right.
func checked[T any](tree T, count func(*census, T), form func(T)) (e api.Errno) {
	defer func() {
		if r, ok := recover().(refusal); ok {
			e = r.err
		}
	}()
	var c census
	count(&c, tree)
	if c.deepest > api.MaxDeep {
		return api.ErrDeep
	}
	form(tree)
	return api.OK
}

// need refuses what is not well-formed.
func need(is bool) {
	if !is {
		refuse(api.ErrForm)
	}
}

// needOnly refuses lists of strings that are too long, have a string twice, or one that is not right.
func needOnly(l []string, most int, right func(string) bool) {
	need(len(l) <= most)
	for i, s := range l {
		need(right(s) && !slices.Contains(l[:i], s))
	}
}

// isName reports whether a string is a name that is no reserved word: a variable, if it is one of an expression.
func isName(s string) bool { return lex.IsName(s) && !IsReserved(s) }

// isPlain reports whether a string is a plain name that is no reserved word.
func isPlain(s string) bool { return lex.IsPlain(s) && !IsReserved(s) }

// isLibrary reports whether a string is a library name. (One that is a plain name of these bytes begins with a letter.)
func isLibrary(s string) bool {
	return isPlain(s) && strings.Trim(s, "abcdefghijklmnopqrstuvwxyz0123456789-") == ""
}

// isKey reports whether a string is a keyword, but for its colon.
func isKey(s string) bool { return lex.Kind(s+":") == api.TkKey }

func isZeroType(t api.Type) bool {
	return t.Kind == 0 && t.Name == "" && t.Lo == 0 && t.Hi == 0 && len(t.Args) == 0
}

func isZeroExpr(e api.Expr) bool {
	return e.Kind == 0 && e.Name == "" && e.Num == 0 && isZeroType(e.Type) && len(e.Params) == 0 && len(e.Keys) == 0 && len(e.Args) == 0
}

// checkSource refuses a source that is not well-formed, and not too large or too deep.
func checkSource(s api.Source) {
	need(isLibrary(s.Name))
	var libs []string
	for _, u := range s.Uses {
		checkUse(u)
		libs = append(libs, u.Lib)
	}
	needOnly(libs, api.MaxLibs, isLibrary)
	needOnly(s.Exports, api.MaxArgs, isPlain)
	need(len(s.Defs) <= api.MaxDefs)
	for _, d := range s.Defs {
		checkDef(d)
	}
	need(len(s.Main) <= 1)
	for _, e := range s.Main {
		checkExpr(e)
	}
	need(!s.Patch || len(s.Uses)+len(s.Exports)+len(s.Main) == 0)
}

// checkUse refuses a use clause, but for its Lib.
func checkUse(u api.Use) {
	if u.All {
		need(len(u.Names) == 0 && (u.Prefix == "" || isPlain(u.Prefix)))
		return
	}
	need(u.Prefix == "" && len(u.Names) > 0 && len(u.Names) <= api.MaxArgs)
	for _, r := range u.Names {
		need(isPlain(r.From) && isPlain(r.To))
	}
}

// checkDef refuses a definition.
func checkDef(d api.Def) {
	rest := d
	rest.Kind = 0
	switch d.Kind {
	case api.DfClass:
		checkClass(d.Class)
		rest.Class = api.ClassDef{}
	case api.DfGeneric:
		need(isPlain(d.Generic.Name) && d.Generic.Arity >= 0 && d.Generic.Arity <= api.MaxParams)
		rest.Generic = api.GenericDef{}
	case api.DfMethod:
		checkMethod(d.Method)
		rest.Method = api.MethodDef{}
	case api.DfDomain:
		need(isName(d.Domain.Generic) && len(d.Domain.Types) <= api.MaxParams)
		for _, t := range d.Domain.Types {
			checkType(t)
		}
		rest.Domain = api.DomainDef{}
	case api.DfConst:
		need(isPlain(d.Name))
		checkExpr(d.Body)
		rest.Name, rest.Body = "", api.Expr{}
	}
	need(d.Kind >= api.DfClass && d.Kind <= api.DfConst && isZeroDef(rest))
}

func isZeroDef(d api.Def) bool {
	c, m := d.Class, d.Method
	return d.Kind == 0 && d.Name == "" && isZeroExpr(d.Body) && d.Generic == api.GenericDef{} &&
		c.Name == "" && len(c.Supers) == 0 && len(c.Slots) == 0 && !c.Abstract && !c.Sealed &&
		m.Generic == "" && len(m.Params) == 0 && isZeroType(m.Result) && isZeroExpr(m.Body) &&
		d.Domain.Generic == "" && len(d.Domain.Types) == 0
}

func checkClass(c api.ClassDef) {
	need(isPlain(c.Name) && len(c.Supers) > 0 && len(c.Supers) <= api.MaxSupers)
	for _, s := range c.Supers {
		need(isName(s))
	}
	var names []string
	for _, s := range c.Slots {
		checkSlot(s)
		names = append(names, s.Name)
	}
	needOnly(names, api.MaxSlots, isPlain)
}

// checkSlot refuses a slot, but for its Name.
func checkSlot(s api.Slot) {
	checkType(s.Type)
	need(s.Alloc >= api.SlInst && s.Alloc <= api.SlVirt)
	need(s.Key == "" || isKey(s.Key))
	need(len(s.Init) <= 1)
	for _, e := range s.Init {
		checkExpr(e)
	}
	need(s.Alloc != api.SlVirt || s.Key == "" && len(s.Init) == 0)
}

func checkMethod(m api.MethodDef) {
	need(isName(m.Generic))
	checkParams(m.Params)
	checkType(m.Result)
	checkExpr(m.Body)
}

func checkParams(l []api.Param) {
	var names []string
	for _, p := range l {
		checkType(p.Type)
		names = append(names, p.Name)
	}
	needOnly(names, api.MaxParams, isName)
}

func checkType(t api.Type) {
	rest := t
	rest.Kind = 0
	switch t.Kind {
	case api.TyClass, api.TySub:
		need(isName(t.Name))
		rest.Name = ""
	case api.TyInt:
		need(t.Lo <= t.Hi)
		rest.Lo, rest.Hi = 0, 0
	case api.TyBool:
		need(t.Lo == 0 || t.Lo == 1)
		rest.Lo = 0
	case api.TyUnion:
		need(len(t.Args) <= api.MaxArgs)
		for _, a := range t.Args {
			checkType(a)
		}
		rest.Args = nil
	}
	need(t.Kind >= api.TyClass && t.Kind <= api.TyUnion && isZeroType(rest))
}
