package glyph

import (
	"strconv"
	"strings"

	"stile/api"
)

// Quote: a text's.
func Quote(s string) string {
	var b strings.Builder
	b.WriteByte('"')
	for i, r := range s {
		switch {
		case stray(s, i, r):
			// Such a byte is 80 or above: it always has two digits.
			escape(&b, 'x', int64(s[i]))
		case shown(r):
			b.WriteRune(r)
		default:
			escape(&b, 'u', int64(r))
		}
	}
	b.WriteByte('"')
	return b.String()
}

// Unquote: the text of a quote.
func Unquote(s string) (string, api.Errno) {
	body, front := strings.CutPrefix(s, `"`)
	body, back := strings.CutSuffix(body, `"`)
	if !front || !back {
		return "", api.ErrForm
	}
	text, ok := unescape(body)
	// A text has one quote only, but is read from other writings too, as from
	// \x{c3}\x{a4}, the bytes of one rune, or from digits with noughts ahead.
	if !ok || Quote(text) != s {
		return "", api.ErrForm
	}
	return text, api.OK
}

// shown: does a rune stand in a quote as it is?
func shown(r rune) bool {
	if r == '"' || r == '\\' {
		return false
	}
	return 0x20 <= r && r <= 0x7E || r >= 0xA1
}

func escape(b *strings.Builder, kind byte, number int64) {
	b.WriteByte('\\')
	b.WriteByte(kind)
	b.WriteByte('{')
	b.WriteString(strconv.FormatInt(number, 16))
	b.WriteByte('}')
}

// unescape: the text of which a quote's inside is perhaps the writing.
func unescape(body string) (string, bool) {
	var b strings.Builder
	next := 0
	for i, r := range body {
		if i < next {
			continue
		}
		if r != '\\' {
			b.WriteRune(r)
			continue
		}
		piece, size := escaped(body[i:])
		if size == 0 {
			return "", false
		}
		b.WriteString(piece)
		next = i + size
	}
	return b.String(), true
}

// escaped: what the piece at the front of s stands for, and of how many bytes
// it is; of none, if s doesn't begin with one.
func escaped(s string) (string, int) {
	end := strings.IndexByte(s, '}')
	if end < len(`\u{`) {
		return "", 0
	}
	number, ok := hexadecimal(s[len(`\u{`):end])
	switch {
	case ok && strings.HasPrefix(s, `\u{`):
		return string(number), end + 1
	case ok && strings.HasPrefix(s, `\x{`) && number <= 0xFF:
		return string([]byte{byte(number)}), end + 1
	}
	return "", 0
}

// hexadecimal: the number of small digits, if it is at most a rune's.
func hexadecimal(digits string) (rune, bool) {
	n := rune(0)
	for _, r := range digits {
		switch {
		case digit(r):
			n = n*16 + r - '0'
		case 'a' <= r && r <= 'f':
			n = n*16 + r - 'a' + 10
		default:
			return 0, false
		}
		if n > 0x10FFFF {
			return 0, false
		}
	}
	return n, true
}
