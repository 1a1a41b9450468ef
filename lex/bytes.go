package lex

// The classes of bytes; the letters are those of the lexical grammar.
const (
	small = iota // L
	digit        // D
	word         // W
	final        // F
	front        // B
	part         // Q
	stuck        // L and _ ? ! $, which may not stand directly behind an integer
	blank
	classCount
)

// classes says of a byte, for each class, whether it is in it.
type classes [classCount]bool

func classesOf(b byte) classes {
	switch b {
	case ' ', '\t', '\n', '\r':
		return classes{blank: true}
	case '<', '%', '*':
		return classes{word: true, final: true, front: true}
	case '$', '_':
		return classes{word: true, final: true, front: true, stuck: true}
	case '!', '?':
		return classes{word: true, final: true, stuck: true}
	case '&', '>', '|', '^', '~':
		return classes{word: true, final: true}
	case '-':
		return classes{word: true, part: true}
	case '+', '/', '=':
		return classes{word: true}
	}
	switch {
	case 'a' <= b && b <= 'z':
		return classes{small: true, word: true, final: true, part: true, stuck: true}
	case '0' <= b && b <= '9':
		return classes{digit: true, word: true, final: true, part: true}
	}
	return classes{}
}

// run returns how many bytes at the beginning of s are of a class.
func run(s string, class int) int {
	for i := range len(s) {
		if !classesOf(s[i])[class] {
			return i
		}
	}
	return len(s)
}
