package fragment

import (
	"iter"
	"slices"

	"skerry/api"
)

// fits reports whether fragments are within the limits of depth and number.
func fits(l []api.Frag) bool { return Depth(l) <= api.MaxDeep && Size(l) <= api.MaxTokens }

// depth returns the depth of the deepest group, but no more than most.
func depth(l []api.Frag, most int) int {
	deepest := 0
	for _, f := range l {
		if deepest == most {
			break
		}
		if f.Open != "" {
			deepest = max(deepest, 1+depth(f.Kids, most-1))
		}
	}
	return deepest
}

// tokens yields the tokens of fragments, without those of groups deeper than MaxDeep.
func tokens(l []api.Frag) iter.Seq[api.Token] {
	return func(yield func(api.Token) bool) { pass(l, 1, yield) }
}

// pass yields the tokens of fragments whose groups are at a depth, and reports whether it may go on.
func pass(l []api.Frag, depth int, yield func(api.Token) bool) bool {
	for _, f := range l {
		switch {
		case f.Open == "":
			if !yield(f.Tok) {
				return false
			}
		case depth <= api.MaxDeep:
			if !yield(f.Tok) || !pass(f.Kids, depth+1, yield) || !yield(closing(f)) {
				return false
			}
		}
	}
	return true
}

// closing returns the token that closes a group.
func closing(group api.Frag) api.Token {
	t := api.Token{Kind: api.TkSign, At: group.Tok.At, Mark: group.Tok.Mark}
	switch group.Open {
	case "(":
		t.Text = ")"
	case "[":
		t.Text = "]"
	case "{":
		t.Text = "}"
	default:
		t.Kind, t.Text = api.TkName, "end"
	}
	return t
}

// same reports whether two lists of any depth are equal but for At and Mark of their tokens.
func same(a, b []api.Frag) bool {
	return slices.EqualFunc(a, b, func(x, y api.Frag) bool {
		x.Tok.At, x.Tok.Mark = y.Tok.At, y.Tok.Mark
		return x.Open == y.Open && x.Tok == y.Tok && same(x.Kids, y.Kids)
	})
}

// clone returns a list that shares no memory with l.
func clone(l []api.Frag) []api.Frag {
	out := slices.Clone(l)
	for i, f := range out {
		out[i].Kids = clone(f.Kids)
	}
	return out
}

// follow returns the fragment to which a path leads, and a function that returns the list with others in its place (and shares memory with it).
func follow(l []api.Frag, path []int) (f api.Frag, put func(by ...api.Frag) []api.Frag, ok bool) {
	for _, i := range path {
		if i < 0 || i >= len(l) {
			return api.Frag{}, nil, false
		}
		list, parent, putParent := l, f, put
		put = func(by ...api.Frag) []api.Frag {
			now := slices.Concat(list[:i], by, list[i+1:])
			if putParent == nil {
				return now
			}
			changed := parent
			changed.Kids = now
			return putParent(changed)
		}
		f = l[i]
		l = f.Kids
	}
	return f, put, len(path) > 0
}
