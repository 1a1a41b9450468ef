package syntax_test

import (
	"math/rand"
	"slices"
	"strings"

	"skerry/api"
	"skerry/syntax"
)

// chapter is the grammar as the chapter writes it.
const chapter = `
source = ("library" | "patch") NAME ";" { use ";" } [ "export" NAME { "," NAME } ";" ] { def ";" } [ expr [ ";" ] ]
use = "use" NAME [ "," ("prefix:" NAME | "import:" "{" item { "," item } "}") ]
item = NAME [ "=>" NAME ]
def = "define" (class | generic | method | domain | "constant" NAME "=" expr)
class = [ "abstract" ] [ "sealed" ] "class" NAME "(" NAME { "," NAME } ")" { slot ";" } "end"
slot = [ "class" | "each-subclass" | "virtual" ] "slot" NAME [ "::" type ] { "," ("init-keyword:" KEY | "init-value:" expr) }
generic = [ "sealed" ] "generic" NAME "(" [ NAME { "," NAME } ] ")"
method = [ "sealed" ] "method" NAME params [ "=>" type ] body "end"
domain = "sealed" "domain" NAME "(" [ type { "," type } ] ")"
params = "(" [ param { "," param } ] ")"
param = NAME [ "::" type | "==" (INTEGER | "#t" | "#f") ]
type = NAME | "limited" "(" INTEGER "," INTEGER ")" | "singleton" "(" (INTEGER | "#t" | "#f") ")" | "subclass" "(" NAME ")" | "type-union" "(" [ type { "," type } ] ")"
body = [ stmt { ";" stmt } [ ";" ] ]
stmt = "let" NAME "=" expr | "let" "handler" type "=" expr | "local" "method" NAME params body "end" | expr
expr = or [ ":=" expr ]
or = comp { ("&" | "|") comp }
comp = sum { ("=" | "==" | "<" | ">" | "<=" | ">=") sum }
sum = prod { ("+" | "-") prod }
prod = unary { ("*" | "/") unary }
unary = ("-" | "~") unary | call
call = atom { "(" [ expr { "," expr } ] ")" | "." NAME }
atom = INTEGER | "#t" | "#f" | NAME | "(" expr ")" | "begin" body "end" | "method" params body "end" | "if" "(" expr ")" body { "elseif" "(" expr ")" body } [ "else" body ] "end" | "block" "(" [ NAME ] ")" body [ "cleanup" body ] "end" | "next-method" "(" [ expr { "," expr } ] ")" | "make" "(" expr { "," KEY expr } ")" | "instance?" "(" expr "," type ")" | "load-patch" "(" INTEGER ")" | ("print" | "signal" | "object-class") "(" expr ")" | "quotient" "(" expr "," expr ")"
`

// symbol is a terminal (a quoted text, or NAME, INTEGER or KEY) or the name of a rule.
type symbol string

func (s symbol) terminal() bool {
	return s[0] == '"' || s == "NAME" || s == "INTEGER" || s == "KEY"
}

// grammar has the sequences of symbols that each rule may be, and the least number of rules within each other that lead to tokens.
type grammar struct {
	rules  map[symbol][][]symbol
	height map[symbol]int
}

// reader reads the grammar: options, repetitions and choices become rules of their own.
type reader struct {
	*grammar
	words []string
}

func newGrammar() *grammar {
	g := &grammar{map[symbol][][]symbol{}, map[symbol]int{}}
	for _, text := range strings.Split(strings.TrimSpace(chapter), "\n") {
		name, text, _ := strings.Cut(text, " = ")
		for _, sign := range []string{"(", ")"} { // a quoted one stays
			text = strings.ReplaceAll(strings.ReplaceAll(text, `"`+sign+`"`, "QUOTED"), sign, " "+sign+" ")
			text = strings.ReplaceAll(text, "QUOTED", `"`+sign+`"`)
		}
		r := &reader{g, strings.Fields(text)}
		g.rules[symbol(name)] = r.choice()
	}
	for changed := true; changed; {
		changed = false
		for name, choices := range g.rules {
			for _, c := range choices {
				if h := g.tall(c); h > 0 && (g.height[name] == 0 || h < g.height[name]) {
					g.height[name], changed = h, true
				}
			}
		}
	}
	return g
}

// tall returns how many rules are within each other in a sequence; 0 if this is not known yet.
func (g *grammar) tall(l []symbol) int {
	h := 1
	for _, s := range l {
		if !s.terminal() {
			if g.height[s] == 0 {
				return 0
			}
			h = max(h, 1+g.height[s])
		}
	}
	return h
}

func (r *reader) choice() [][]symbol {
	var out [][]symbol
	for {
		var l []symbol
		for len(r.words) > 0 && !slices.Contains([]string{"|", ")", "]", "}"}, r.words[0]) {
			l = append(l, r.item())
		}
		out = append(out, l)
		if len(r.words) == 0 || r.words[0] != "|" {
			return out
		}
		r.words = r.words[1:]
	}
}

func (r *reader) item() symbol {
	word := r.words[0]
	r.words = r.words[1:]
	if !slices.Contains([]string{"(", "[", "{"}, word) {
		return symbol(word)
	}
	name := symbol("part " + strings.Repeat("I", len(r.rules)))
	r.rules[name] = nil
	l := r.choice()
	r.words = r.words[1:]
	switch word {
	case "[":
		l = append(l, nil)
	case "{":
		for i := range l {
			l[i] = append(l[i], name)
		}
		l = append(l, nil)
	}
	r.rules[name] = l
	return name
}

// place is a place in a rule that was begun at the token from.
type place struct {
	rule       symbol
	choice, at int
	from       int
}

// recognizer tells where tokens go wrong, by the method of Earley: all places in rules at which it may be are kept.
type recognizer struct {
	*grammar
	sets []map[place]bool
}

// closed adds to the last set the places that its places lead to.
func (r *recognizer) closed() {
	n := len(r.sets) - 1
	set := r.sets[n]
	var work []place
	add := func(set map[place]bool, p place) {
		if !set[p] {
			set[p] = true
			work = append(work, p)
		}
	}
	for p := range set {
		work = append(work, p)
	}
	for len(work) > 0 {
		p := work[len(work)-1]
		work = work[:len(work)-1]
		if next, is := r.next(p); !is {
			for q := range r.sets[p.from] {
				if s, is := r.next(q); is && s == p.rule {
					q.at++
					add(set, q)
				}
			}
		} else if !next.terminal() {
			for i := range r.rules[next] {
				add(set, place{next, i, 0, n})
			}
			for q := range set { // it may have been completed here already
				if _, is := r.next(q); !is && q.rule == next && q.from == n {
					p.at++
					add(set, p)
					break
				}
			}
		}
	}
}

func (r *recognizer) next(p place) (symbol, bool) {
	l := r.rules[p.rule][p.choice]
	if p.at == len(l) {
		return "", false
	}
	return l[p.at], true
}

// step goes on by a terminal, and reports whether it can stand.
func (r *recognizer) step(fits func(symbol) bool) bool {
	now := map[place]bool{}
	for p := range r.sets[len(r.sets)-1] {
		if s, is := r.next(p); is && s.terminal() && fits(s) {
			p.at++
			now[p] = true
		}
	}
	if len(now) == 0 {
		return false
	}
	r.sets = append(r.sets, now)
	r.closed()
	return true
}

// fits returns what reports whether a token is a terminal.
func fits(t api.Token) func(symbol) bool {
	return func(s symbol) bool {
		switch s {
		case "NAME":
			return t.Kind == api.TkName && !syntax.IsReserved(t.Text)
		case "INTEGER":
			return t.Kind == api.TkNum
		case "KEY":
			return t.Kind == api.TkKey
		}
		return string(s) == `"`+t.Text+`"`
	}
}

// verdict returns where tokens go wrong for a rule, and the error.
func (g *grammar) verdict(rule symbol, l []api.Token) (int, api.Errno) {
	r := &recognizer{g, []map[place]bool{{}}}
	for i := range g.rules[rule] {
		r.sets[0][place{rule, i, 0, 0}] = true
	}
	r.closed()
	for i, t := range l {
		if r.step(fits(t)) {
			continue
		}
		if syntax.IsReserved(t.Text) && r.step(fits(api.Token{Kind: api.TkName, Text: "x"})) {
			return i, api.ErrReserve
		}
		return i, api.ErrParse
	}
	for p := range r.sets[len(l)] {
		if _, is := r.next(p); !is && p.rule == rule && p.from == 0 {
			return 0, api.OK
		}
	}
	return len(l), api.ErrParse
}

// writer writes random texts of rules.
type writer struct {
	*grammar
	*rand.Rand
	names []string
	left  int // how many words may be written, but for what ends the rules that were begun
}

// write returns the words of a rule, or of a terminal.
func (w *writer) write(s symbol) []string {
	w.left--
	switch {
	case s == "NAME":
		return []string{w.names[w.Intn(len(w.names))]}
	case s == "INTEGER":
		return []string{[]string{"0", "1", "27"}[w.Intn(3)]}
	case s == "KEY":
		return []string{[]string{"k:", "l:", "end:"}[w.Intn(3)]}
	case s[0] == '"':
		return []string{strings.Trim(string(s), `"`)}
	}
	w.left++
	choices := w.rules[s]
	c := choices[w.Intn(len(choices))]
	if w.left <= 0 {
		c = slices.MinFunc(choices, func(a, b []symbol) int { return w.tall(a) - w.tall(b) })
	}
	var out []string
	for _, part := range c {
		out = append(out, w.write(part)...)
	}
	return out
}

// text returns a random text of a rule, of about as many words at most.
func (w *writer) text(s symbol, most int) string {
	w.left = 1 + w.Intn(most)
	return strings.Join(w.write(s), " ")
}
