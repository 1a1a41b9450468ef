package macro

import "skerry/api"

// Kinds of fragments of a pattern, beside those of variables. (No variable has one of these as its kind.)
const (
	plain = ""  // a token that is no variable
	group = "(" // a group of any opening
)

// kindOf returns the kind of a fragment of a pattern.
func kindOf(f api.Frag) string {
	switch {
	case f.Open != "":
		return group
	case f.Tok.Kind != api.TkPat:
		return plain
	}
	_, kind := halves(f.Tok)
	return kind
}

// mismatch is what a matcher panics with where a list does not match.
type mismatch struct{}

// taker is how a matcher goes on: it returns how many fragments of what is left of a list the first fragment of what is left of a pattern takes.
type taker func(m *matcher, pattern, l []api.Frag) int

// takers returns what takes for the kinds of fragments of a pattern.
func takers() map[string]taker {
	return map[string]taker{
		plain:        (*matcher).plain,
		group:        (*matcher).group,
		"name":       (*matcher).name,
		"token":      (*matcher).token,
		"expression": (*matcher).expression,
		"body":       (*matcher).body,
	}
}

// matcher goes through a pattern and a list from the left, and fills a table.
type matcher struct {
	table
	takers map[string]taker
}

// match returns what the variables of a pattern take, which are parts of the list, and whether this matches.
func match(pattern, l []api.Frag) (t table, is bool) {
	defer func() {
		if _, ok := recover().(mismatch); ok {
			is = false
		}
	}()
	m := &matcher{takers: takers()}
	m.list(pattern, l)
	return m.table, true
}

// need leaves the matcher if something does not match.
func (m *matcher) need(is bool) {
	if !is {
		panic(mismatch{})
	}
}

// list matches a whole list.
func (m *matcher) list(pattern, l []api.Frag) {
	for i, f := range pattern {
		n := m.takers[kindOf(f)](m, pattern[i:], l)
		l = l[n:]
	}
	m.need(len(l) == 0)
}

func (m *matcher) plain(pattern, l []api.Frag) int {
	m.need(len(l) > 0 && isToken(l[0], pattern[0].Tok))
	return 1
}

func (m *matcher) group(pattern, l []api.Frag) int {
	m.need(len(l) > 0 && l[0].Open == pattern[0].Open)
	m.list(pattern[0].Kids, l[0].Kids)
	return 1
}

func (m *matcher) name(pattern, l []api.Frag) int {
	m.need(len(l) > 0 && l[0].Tok.Kind == api.TkName)
	return m.token(pattern, l)
}

func (m *matcher) token(pattern, l []api.Frag) int {
	m.need(len(l) > 0 && l[0].Open == "")
	return m.take(pattern, l[:1])
}

func (m *matcher) expression(pattern, l []api.Frag) int {
	n := upTo(l, append(stops(pattern), sign(","), sign(";"), sign("=>"))...)
	m.need(n > 0)
	return m.take(pattern, l[:n])
}

func (m *matcher) body(pattern, l []api.Frag) int {
	return m.take(pattern, l[:upTo(l, stops(pattern)...)])
}

// take binds the variable that is the first fragment of a pattern.
func (m *matcher) take(pattern, l []api.Frag) int {
	name, _ := halves(pattern[0].Tok)
	m.bind(name, l)
	return len(l)
}

// stops returns the stop of the variable that is the first fragment of a pattern, if it has one.
func stops(pattern []api.Frag) []api.Token {
	if len(pattern) == 1 {
		return nil
	}
	return []api.Token{pattern[1].Tok}
}

// upTo returns how many fragments there are ahead of the first one that is one of some tokens.
func upTo(l []api.Frag, tokens ...api.Token) int {
	n := 0
list:
	for ; n < len(l); n++ {
		for _, t := range tokens {
			if isToken(l[n], t) {
				break list
			}
		}
	}
	return n
}
