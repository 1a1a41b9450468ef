package macro

import (
	"slices"

	"skerry/api"
	"skerry/fragment"
)

// among reports whether s is one of l.
func among(s string, l ...string) bool { return slices.Contains(l, s) }

// word returns a token that is a name, and sign one that is a sign.
func word(text string) api.Token { return api.Token{Kind: api.TkName, Text: text} }
func sign(text string) api.Token { return api.Token{Kind: api.TkSign, Text: text} }

// alike reports whether two tokens have the same kind and text.
func alike(t, u api.Token) bool { return t.Kind == u.Kind && t.Text == u.Text }

// isToken reports whether a fragment is a token like another one.
func isToken(f api.Frag, t api.Token) bool { return f.Open == "" && alike(f.Tok, t) }

// kids returns what is within a group. (Only groups have Kids: chapter 2.)
func kids(f api.Frag) []api.Frag {
	if f.Open == "" {
		return nil
	}
	return f.Kids
}

// limits returns the error of fragments that are too deep, or too many.
func limits(l []api.Frag) api.Errno {
	switch {
	case fragment.Depth(l) > api.MaxDeep:
		return api.ErrDeep
	case fragment.Size(l) > api.MaxTokens:
		return api.ErrLong
	}
	return api.OK
}

// checkLimits refuses the first list that is too deep, or too long.
func checkLimits(lists ...[]api.Frag) {
	for _, l := range lists {
		if e := limits(l); e != api.OK {
			refuse(e)
		}
	}
}

// changed returns fragments, in new memory, whose tokens are changed.
func changed(l []api.Frag, change func(api.Token) api.Token) []api.Frag {
	var out []api.Frag
	for _, f := range l {
		out = append(out, api.Frag{Tok: change(f.Tok), Open: f.Open, Kids: changed(kids(f), change)})
	}
	return out
}

// copied returns fragments in new memory.
func copied(l []api.Frag) []api.Frag {
	return changed(l, func(t api.Token) api.Token { return t })
}

// equal reports whether two lists are equal, At and Mark of their tokens included.
func equal(a, b []api.Frag) bool {
	return slices.EqualFunc(a, b, func(x, y api.Frag) bool {
		return x.Tok == y.Tok && x.Open == y.Open && equal(x.Kids, y.Kids)
	})
}

// same reports whether two expansions are equal.
func same(x, y api.Expansion) bool {
	return x.Macro == y.Macro && x.Rule == y.Rule && x.Mark == y.Mark && x.At == y.At &&
		slices.EqualFunc(x.Binds, y.Binds, func(a, b api.MacroBind) bool {
			return a.Name == b.Name && equal(a.Frags, b.Frags)
		})
}
