package sigil

import "stile/api"

// What a piece of a text may be beside a token: nothing that can be told, or
// what means nothing. No token has these kinds.
const (
	none = 0
	gap  = -1
)

// signs holds all of them.
const signs = "{}[]()=;,:#*|&-"

// piece: of what kind the longest piece at the front of s is, and of how many
// bytes; r is the first rune of s.
func piece(s string, r rune) (kind, size int) {
	next := second(s)
	switch {
	case blank(r):
		return gap, span(s, blank)
	case r == '/' && next == '/':
		return gap, span(s, inLine)
	case letter(r):
		return word(s)
	case r == '-' && next == '>':
		return To, len("->")
	case sign(r):
		return int(r), 1
	}
	return none, 0
}

// second: the second rune of s; where there is none, 0, which neither -> nor a
// remark has there.
func second(s string) rune {
	for i, r := range s {
		if i > 0 {
			return r
		}
	}
	return 0
}

// word: the kind and the bytes of the word at the front of s. One that is too
// long is none: it isn't cut into two.
func word(s string) (kind, size int) {
	size = span(s, inWord)
	if size > api.MaxName {
		return none, 0
	}
	switch s[:size] {
	case "type":
		kind = Type
	case "rel":
		kind = Rel
	case "this":
		kind = This
	default:
		kind = Word
	}
	return kind, size
}

// span: of how many bytes are the runes at the front of s that belong.
func span(s string, belongs func(r rune) bool) int {
	for i, r := range s {
		if !belongs(r) {
			return i
		}
	}
	return len(s)
}

func blank(r rune) bool {
	switch r {
	case '\t', '\n', '\r', ' ', '\u3000':
		return true
	}
	return false
}

func letter(r rune) bool { return 'a' <= r && r <= 'z' }

func inWord(r rune) bool { return letter(r) || '0' <= r && r <= '9' || r == '_' }

func inLine(r rune) bool { return r != '\n' }

func sign(r rune) bool {
	for _, x := range signs {
		if x == r {
			return true
		}
	}
	return false
}
