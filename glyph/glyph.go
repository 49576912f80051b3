// Package glyph is layer 1: texts as runes: which may name something, how they are quoted: see shared/doc/01-glyph.md.
package glyph

import (
	"strings"

	"stile/api"
)

// reserved holds the signs that tokens, filters and quotes keep for themselves.
const reserved = `#@:*,()"\;`

// Valid: is it UTF-8?
func Valid(s string) bool {
	_, e := Count(s)
	return e == api.OK
}

// Count: how many runes.
func Count(s string) (int, api.Errno) {
	n := 0
	for i, r := range s {
		if stray(s, i, r) {
			return 0, api.ErrText
		}
		n++
	}
	return n, api.OK
}

// Name: is it one?
func Name(s string) bool {
	if s == "" || len(s) > api.MaxName {
		return false
	}
	for i, r := range s {
		if !letter(r) && (i == 0 || !digit(r) && r != '_') {
			return false
		}
	}
	return true
}

// Id: is it one?
func Id(s string) bool {
	n := 0
	for i, r := range s {
		n++
		if n > api.MaxId || !plain(r) || stray(s, i, r) {
			return false
		}
	}
	return n > 0
}

// Clip: the first runes.
func Clip(s string, n int) (string, api.Errno) {
	if n < 0 {
		return "", api.ErrRange
	}
	end, count := len(s), 0
	for i, r := range s {
		if stray(s, i, r) {
			return "", api.ErrText
		}
		if count == n {
			end = i
		}
		count++
	}
	// A piece of s would share its memory.
	return strings.Clone(s[:end]), api.OK
}

// Compare: of texts.
func Compare(a, b string) int { return strings.Compare(a, b) }

// stray: is the byte at i no part of a rune's form? Go's range tells r to be
// FFFD there, as it does of FFFD's own three bytes; only the bytes differ.
func stray(s string, i int, r rune) bool {
	return r == '\uFFFD' && !strings.HasPrefix(s[i:], "\uFFFD")
}

func letter(r rune) bool { return 'a' <= r && r <= 'z' }

func digit(r rune) bool { return '0' <= r && r <= '9' }

func plain(r rune) bool {
	if r < 0x21 || 0x7F <= r && r <= 0xA0 {
		return false
	}
	return !strings.ContainsRune(reserved, r)
}
