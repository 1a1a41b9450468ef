package lex

import (
	"strconv"
	"strings"

	"skerry/api"
)

// cursor is a place in a text.
type cursor struct {
	text string
	at   int
}

func (c *cursor) done() bool { return c.at == len(c.text) }

// rest is what blanks and comments look at.
func (c *cursor) rest() string { return c.text[c.at:] }

// reach is what all other rules look at.
func (c *cursor) reach() string { return c.text[c.at:min(c.at+api.MaxReach, len(c.text))] }

// in reports whether the byte that stands n bytes behind the cursor is of a class.
func (c *cursor) in(class, n int) bool {
	return c.at+n < len(c.text) && classesOf(c.text[c.at+n])[class]
}

// refusal is what a cutter panics with: an error, and where it was found.
type refusal struct {
	err api.Errno
	at  int
}

// cutter cuts a text into pieces. What it does from the cursor on depends only on the text there and on its other fields.
type cutter struct {
	cursor
	tokens  int  // tokens ahead of the cursor
	operand bool // the last one of them makes a - behind it a sign
}

func newCutter(text string) *cutter {
	c := &cutter{cursor: cursor{text: text}}
	if len(text) > api.MaxText {
		c.refuse(api.ErrLong)
	}
	return c
}

func (c *cutter) refuse(e api.Errno) { panic(refusal{e, c.at}) }

// pieces yields the pieces from the cursor on.
func (c *cutter) pieces(yield func(api.Piece) bool) {
	for !c.done() {
		p := c.next()
		c.take(p)
		if !yield(p) {
			return
		}
	}
}

// next returns the piece at the cursor.
func (c *cutter) next() api.Piece {
	if n := c.comment(); n > 0 {
		return api.Piece{Kind: api.PcComment, At: c.at, Len: n}
	}
	if n := run(c.rest(), blank); n > 0 {
		return api.Piece{Kind: api.PcBlank, At: c.at, Len: n}
	}
	kind, n := c.longest()
	c.check(kind, n)
	return api.Piece{Kind: kind, At: c.at, Len: n}
}

// take moves behind a piece that begins at the cursor.
func (c *cutter) take(p api.Piece) {
	if p.Kind < api.PcBlank {
		if c.tokens == api.MaxTokens {
			c.refuse(api.ErrLong)
		}
		c.tokens++
		c.operand = c.isOperand(p.Kind)
	}
	c.at += p.Len
}

// isOperand reports whether the token of a kind at the cursor makes a - behind it a sign.
func (c *cutter) isOperand(kind int) bool {
	switch kind {
	case api.TkName, api.TkNum, api.TkHash:
		return true
	case api.TkSign:
		return c.text[c.at] == ')' || c.text[c.at] == ']'
	}
	return false
}

// longest returns the kind and the length of the token at the cursor; 0 and 0 if there is none. A name is longer than a sign with which it begins: so it needs no rule to be ahead of that.
func (c *cutter) longest() (kind, size int) {
	rules := []struct {
		kind int
		size func(*cutter) int
	}{
		{api.TkName, (*cutter).name},
		{api.TkNum, (*cutter).integer},
		{api.TkKey, (*cutter).keyword},
		{api.TkHash, (*cutter).hash},
		{api.TkSign, (*cutter).sign},
		{api.TkPat, (*cutter).pattern},
	}
	for _, r := range rules {
		if n := r.size(c); n > size {
			kind, size = r.kind, n
		}
	}
	return kind, size
}

// check refuses what is wrong with the n bytes at the cursor as a token of a kind. (Only names, keywords and pattern variables are longer than MaxName when the integers have been checked.)
func (c *cutter) check(kind, n int) {
	switch {
	case kind == api.TkNum && (c.in(stuck, n) || !isCanonical(c.rest()[:n])):
		c.refuse(api.ErrDigit)
	case c.text[c.at] == '#' && (n == 0 || c.in(word, n)):
		c.refuse(api.ErrHash)
	case n > api.MaxName:
		c.refuse(api.ErrLong)
	case n == 0:
		c.refuse(api.ErrByte)
	}
}

// isCanonical reports whether digits, with or without a - ahead, are the text of an integer in the range of int; so they are fewer than MaxReach.
func isCanonical(s string) bool {
	n, err := strconv.Atoi(s)
	return err == nil && strconv.Itoa(n) == s
}

// comment returns the length of the comment at the cursor.
func (c *cutter) comment() int {
	rest := c.rest()
	switch {
	case strings.HasPrefix(rest, "//"):
		if n := strings.IndexByte(rest, '\n'); n >= 0 {
			return n
		}
		return len(rest)
	case strings.HasPrefix(rest, "/*"):
		return c.nested(rest)
	}
	return 0
}

// nested returns the length of the comment of the second sort with which rest begins.
func (c *cutter) nested(rest string) int {
	open := 0
	for i := 0; i+2 <= len(rest); i++ {
		switch rest[i : i+2] {
		case "/*":
			if open == api.MaxDeep {
				c.refuse(api.ErrDeep)
			}
			open++
			i++
		case "*/":
			open--
			i++
			if open == 0 {
				return i + 1
			}
		}
	}
	c.refuse(api.ErrComment)
	return 0
}

func (c *cutter) name() int {
	s := c.reach()
	n := plain(s)
	if n > 0 && strings.HasPrefix(s[n:], "@") && n+1 < len(s) {
		if in := classesOf(s[n+1]); in[small] || in[digit] {
			return n + 2 + run(s[n+2:], part)
		}
	}
	return n
}

func (c *cutter) integer() int {
	s := c.reach()
	sign := 0
	if s[0] == '-' && !c.operand {
		sign = 1
	}
	if n := run(s[sign:], digit); n > 0 {
		return sign + n
	}
	return 0
}

func (c *cutter) keyword() int {
	s := c.reach()
	if n := plain(s); n > 0 && isColon(s[n:]) {
		return n + 1
	}
	return 0
}

func (c *cutter) hash() int {
	if s := c.reach(); strings.HasPrefix(s, "#t") || strings.HasPrefix(s, "#f") {
		return 2
	}
	return 0
}

func (c *cutter) sign() int {
	s := c.reach()
	if len(s) > 1 {
		switch s[:2] {
		case ":=", "::", "=>", "==", "<=", ">=":
			return 2
		}
	}
	if strings.IndexByte("()[]{},;.=<>+-*/&|~?", s[0]) >= 0 {
		return 1
	}
	return 0
}

func (c *cutter) pattern() int {
	s := c.reach()
	if s[0] != '?' {
		return 0
	}
	n := plain(s[1:])
	if n == 0 {
		return 0
	}
	n++
	if isColon(s[n:]) {
		if k := plain(s[n+1:]); k > 0 {
			return n + 1 + k
		}
	}
	return n
}

// plain returns how many bytes of s are a plain name, at most.
func plain(s string) int {
	size, letter := 0, false
	for i := range len(s) {
		in := classesOf(s[i])
		if !in[word] || i == 0 && !in[small] && !in[front] {
			break
		}
		letter = letter || in[small]
		if letter && in[final] {
			size = i + 1
		}
	}
	return size
}

// isColon reports whether s begins with a colon that is not the beginning of another sign.
func isColon(s string) bool {
	return strings.HasPrefix(s, ":") && !strings.HasPrefix(s, "::") && !strings.HasPrefix(s, ":=")
}
