package fragment

import (
	"slices"

	"skerry/api"
	"skerry/lex"
)

// refusal is what a reader panics with: an error, and the index of the token at which it was found.
type refusal struct {
	err api.Errno
	at  int
}

// group is an open group, and the index of the token that opened it.
type group struct {
	api.Frag
	from int
}

// reader reads tokens into fragments.
type reader struct {
	tokens  []api.Token
	at      int               // the index of the token that is read
	groups  []group           // the open groups, the innermost one last; the first one has no opening, and stands for the result
	closers map[string]func() // what closes a group, by its opening
}

func newReader(l []api.Token, words []string) *reader {
	r := &reader{tokens: l, groups: []group{{}}}
	if !areRight(words) {
		r.refuse(api.ErrArg)
	}
	if len(l) > api.MaxTokens {
		r.refuse(api.ErrLong)
	}
	r.closers = map[string]func(){
		"(": r.end, "[": r.end, "{": r.end,
		"begin": r.end, "if": r.end, "block": r.end,
		"method": r.endNamed, "class": r.endNamed, "macro": r.endNamed,
	}
	for _, w := range words {
		r.closers[w] = r.end
	}
	return r
}

// areRight reports whether words may be given as further opening words.
func areRight(words []string) bool {
	if len(words) > api.MaxWords {
		return false
	}
	for i, w := range words {
		if !lex.IsPlain(w) || among(w, "end", "slot") || among(w, Words()...) || among(w, words[:i]...) {
			return false
		}
	}
	return true
}

// among reports whether x is one of l.
func among[T comparable](x T, l ...T) bool { return slices.Contains(l, x) }

func (r *reader) refuse(e api.Errno) { panic(refusal{e, r.at}) }

// read returns the fragments of all tokens.
func (r *reader) read() []api.Frag {
	for r.at < len(r.tokens) {
		r.check()
		r.take()
		r.at++
	}
	if len(r.groups) > 1 {
		r.at = r.inner().from
		r.refuse(api.ErrOpen)
	}
	return r.inner().Kids
}

// check refuses a token that is not valid.
func (r *reader) check() {
	if lex.Check(r.tokens[r.at]) != api.OK {
		r.refuse(api.ErrToken)
	}
}

// take puts a valid token where it belongs. (The Text of a valid token leaves no choice of its Kind.)
func (r *reader) take() {
	t := r.tokens[r.at]
	switch {
	case among(t.Text, ")", "]", "}", "end"):
		closer, ok := r.closers[r.inner().Open]
		if !ok {
			r.refuse(api.ErrStray)
		}
		closer()
	case r.opens(t):
		if len(r.groups) > api.MaxDeep {
			r.refuse(api.ErrDeep)
		}
		r.groups = append(r.groups, group{api.Frag{Tok: t, Open: t.Text}, r.at})
	default:
		r.add(api.Frag{Tok: t})
	}
}

// opens reports whether a token opens a group.
func (r *reader) opens(t api.Token) bool {
	if _, ok := r.closers[t.Text]; !ok {
		return false
	}
	if t.Kind == api.TkName && r.inner().Open == "macro" && r.inner().from == r.at-1 {
		return false
	}
	return t.Text != "class" || !r.nextAre("slot")
}

// inner returns the innermost open group.
func (r *reader) inner() *group { return &r.groups[len(r.groups)-1] }

// add puts a fragment into the innermost open group.
func (r *reader) add(f api.Frag) {
	g := r.inner()
	g.Kids = append(g.Kids, f)
}

// end closes the innermost open group.
func (r *reader) end() {
	f := r.inner().Frag
	if closing(f).Text != r.tokens[r.at].Text {
		r.refuse(api.ErrStray)
	}
	r.groups = r.groups[:len(r.groups)-1]
	r.add(f)
}

// endNamed closes the innermost open group, and drops what repeats its word or its name behind the end.
func (r *reader) endNamed() {
	f := r.inner().Frag
	r.end()
	repeats := [][]string{{f.Open}}
	if len(f.Kids) > 0 && f.Kids[0].Open == "" && f.Kids[0].Tok.Kind == api.TkName {
		name := f.Kids[0].Tok.Text
		repeats = append(repeats, []string{name}, []string{f.Open, name})
	}
	for _, names := range repeats {
		if r.nextAre(names...) && r.stopsAt(r.at+1+len(names)) {
			r.drop(len(names))
			return
		}
	}
}

// drop passes over the next n tokens.
func (r *reader) drop(n int) {
	for range n {
		r.at++
		r.check()
	}
}

// sight is as much of a token as is seen of it ahead of its turn, when it may not be valid.
type sight struct {
	kind int
	text string
}

// nextAre reports whether the next tokens are names.
func (r *reader) nextAre(names ...string) bool {
	for i, name := range names {
		if at := r.at + 1 + i; at >= len(r.tokens) || r.see(at) != (sight{api.TkName, name}) {
			return false
		}
	}
	return true
}

// stopsAt reports whether at an index there is a stop: names ahead of it may be dropped.
func (r *reader) stopsAt(at int) bool {
	if at >= len(r.tokens) {
		return true
	}
	return among(r.see(at),
		sight{api.TkSign, ";"}, sight{api.TkSign, ","},
		sight{api.TkSign, ")"}, sight{api.TkSign, "]"}, sight{api.TkSign, "}"},
		sight{api.TkName, "end"})
}

func (r *reader) see(at int) sight { return sight{r.tokens[at].Kind, r.tokens[at].Text} }
