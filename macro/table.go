package macro

import (
	"strings"

	"skerry/api"
)

// table holds what variables are bound to.
type table struct {
	binds []api.MacroBind
	named map[string][]api.Frag // the fragments of binds, by their names
}

// bind binds a variable, and reports whether it was not bound before.
func (t *table) bind(name string, l []api.Frag) bool {
	if t.named == nil {
		t.named = map[string][]api.Frag{}
	}
	if t.has(name) {
		return false
	}
	t.binds = append(t.binds, api.MacroBind{Name: name, Frags: l})
	t.named[name] = l
	return true
}

// copies returns the bindings in new memory.
func (t *table) copies() []api.MacroBind {
	var out []api.MacroBind
	for _, b := range t.binds {
		out = append(out, api.MacroBind{Name: b.Name, Frags: copied(b.Frags)})
	}
	return out
}

// has reports whether a variable is bound.
func (t *table) has(name string) bool {
	_, is := t.named[name]
	return is
}

// halves returns the name and the kind of a variable that lex.Pattern accepted. (It is much quicker than a check of the whole token.)
func halves(t api.Token) (name, kind string) {
	name, kind, _ = strings.Cut(t.Text[1:], ":")
	return name, kind
}
