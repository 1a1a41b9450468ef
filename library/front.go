package library

import (
	"iter"
	"slices"

	"skerry/api"
	"skerry/fragment"
	"skerry/lex"
	"skerry/macro"
	"skerry/syntax"
)

// The layers that a text goes through.
const (
	layerLex      = 1
	layerFragment = 2
	layerMacro    = 3
	layerSyntax   = 4
	layerModule   = 5
)

// front makes a source of a text, step by step.
type front struct {
	text    string
	used    []api.Interface
	layer   int // that of the step that is under way
	tokens  []api.Token
	brought []api.Macro // the macros that the text uses
	list    []api.Frag
	own     []api.Macro
	source  api.Source
}

// newFront returns the front end for a text, or refuses the interfaces.
func newFront(text string, used []api.Interface) *front {
	checkInterfaces(used)
	return &front{text: text, used: used}
}

// step is a step of the front end, and its layer.
type step struct {
	layer int
	take  func()
}

// run takes the steps of the layers up to the last one that is asked for.
func (f *front) run(last int) {
steps:
	for _, s := range []step{
		{layerLex, f.scan},
		{layerFragment, f.read},
		{layerMacro, f.define},
		{layerMacro, f.expand},
		{layerSyntax, f.parse},
	} {
		if s.layer > last {
			break steps
		}
		f.layer = s.layer
		s.take()
	}
}

// pass refuses the text with the error of the step, if there is one, and its place.
func (f *front) pass(at int, e api.Errno) {
	if e != api.OK {
		panic(refusal{e, api.Trouble{Layer: f.layer, At: at}})
	}
}

func (f *front) scan() {
	l, at, e := lex.Scan(f.text)
	f.pass(at, e)
	f.tokens, f.brought = l, brought(l, f.used)
}

func (f *front) read() {
	l, at, e := fragment.Read(f.tokens, f.words())
	f.pass(at, e)
	f.list = l
}

func (f *front) define() {
	own, rest, at, e := macro.Define(f.list)
	f.pass(at, e)
	f.own, f.list = own, rest
}

func (f *front) expand() {
	l, _, at, e := macro.With(firsts(slices.Concat(f.own, f.brought), macroName), f.list)
	f.pass(at, e)
	f.list = l
}

func (f *front) parse() {
	s, at, e := syntax.Parse(f.list)
	f.pass(at, e)
	f.source = s
}

// words returns the names of the statement macros that the text defines, and of those that it uses.
func (f *front) words() []string {
	l := macro.Words(f.tokens)
	for _, m := range f.brought {
		if m.Statement {
			l = append(l, m.Name)
		}
	}
	return firsts(l, func(word string) string { return word })
}

// brought returns the macros of the interfaces whose libraries tokens use in full.
func brought(l []api.Token, used []api.Interface) []api.Macro {
	var macros []api.Macro
	for _, i := range used {
		if among(libName(i), libraries(l)) {
			macros = append(macros, i.Macros...)
		}
	}
	return firsts(macros, macroName)
}

// among reports whether a name is one of those that are yielded.
func among(name string, names iter.Seq[string]) bool {
	for n := range names {
		if n == name {
			return true
		}
	}
	return false
}

// libraries yields the x of each  use x ;  among tokens.
func libraries(l []api.Token) iter.Seq[string] {
	return func(yield func(string) bool) {
		for i := range max(0, len(l)-2) {
			lib := l[i+1]
			if isToken(l[i], api.TkName, "use") && lib.Kind == api.TkName && lex.IsPlain(lib.Text) &&
				isToken(l[i+2], api.TkSign, ";") && !yield(lib.Text) {
				return
			}
		}
	}
}

func isToken(t api.Token, kind int, text string) bool { return t.Kind == kind && t.Text == text }
