package syntax

import (
	"slices"

	"skerry/api"
	"skerry/lex"
)

// refusal is what is panicked with: an error, and the index of the token at which it was found, if it has one.
type refusal struct {
	err api.Errno
	at  int
}

// refuse leaves a check. (A cursor has a refuse of its own.)
func refuse(e api.Errno) { panic(refusal{err: e}) }

// cursor is a place in a list of tokens.
type cursor struct {
	tokens []api.Token
	at     int
	now    api.Token // the token there; a zero one, which can stand nowhere, at the end and for a token that is not valid
}

func newCursor(l []api.Token) cursor {
	c := cursor{tokens: l}
	if len(l) > api.MaxTokens {
		c.refuse(api.ErrLong)
	}
	c.look()
	return c
}

func (c *cursor) refuse(e api.Errno) { panic(refusal{e, c.at}) }

func (c *cursor) look() {
	c.now = api.Token{}
	if !c.done() && lex.Check(c.tokens[c.at]) == api.OK {
		c.now = c.tokens[c.at]
	}
}

func (c *cursor) done() bool { return c.at == len(c.tokens) }

// end refuses a token behind the last one that can stand.
func (c *cursor) end() {
	if !c.done() {
		c.refuse(api.ErrParse)
	}
}

// is reports whether the next token has one of some texts. (The Text of a valid token leaves no choice of its Kind.)
func (c *cursor) is(texts ...string) bool { return slices.Contains(texts, c.now.Text) }

// take returns the next token, and moves behind it.
func (c *cursor) take() api.Token {
	t := c.now
	c.at++
	c.look()
	return t
}

// accept takes the next token if it has a text, and reports whether it has.
func (c *cursor) accept(text string) bool {
	is := c.is(text)
	if is {
		c.take()
	}
	return is
}

// expect takes the next token, which has to have a text.
func (c *cursor) expect(text string) {
	if !c.accept(text) {
		c.refuse(api.ErrParse)
	}
}

// kind takes the next token, which has to be of a kind.
func (c *cursor) kind(kind int) api.Token {
	if c.now.Kind != kind {
		c.refuse(api.ErrParse)
	}
	return c.take()
}

// isName reports whether the next token is a name that is no reserved word.
func (c *cursor) isName() bool { return c.now.Kind == api.TkName && !IsReserved(c.now.Text) }

// name takes the next token, which has to be a name that is no reserved word.
func (c *cursor) name() api.Token {
	if !c.isName() {
		c.refuseName()
	}
	return c.take()
}

// refuseName refuses the next token where a name, perhaps beside others, can stand.
func (c *cursor) refuseName() {
	if IsReserved(c.now.Text) {
		c.refuse(api.ErrReserve)
	}
	c.refuse(api.ErrParse)
}

// some parses one item or more, with commas between them.
func (c *cursor) some(item func()) {
	item()
	for c.accept(",") {
		item()
	}
}

// list parses any number of items, with commas between them, and what closes them.
func (c *cursor) list(item func()) {
	if !c.is(")") {
		c.some(item)
	}
	c.expect(")")
}
