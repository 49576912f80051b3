package glyph_test

import (
	"strconv"
	"strings"
	"testing"

	"stile/api"
	"stile/glyph"
)

// quotes are texts with their quotes.
var quotes = map[string]string{
	"":                 `""`,
	"a\n\xff":          `"a\u{a}\x{ff}"`,
	"a b":              `"a b"`,
	`"`:                `"\u{22}"`,
	`\`:                `"\u{5c}"`,
	`\u{61}`:           `"\u{5c}u{61}"`,
	`\x{ff}`:           `"\u{5c}x{ff}"`,
	"#@:*,();{}":       `"#@:*,();{}"`,
	"\x00":             `"\u{0}"`,
	"\x0f":             `"\u{f}"`,
	"\x10":             `"\u{10}"`,
	"\x1f":             `"\u{1f}"`,
	" ~":               `" ~"`,
	"\x7f":             `"\u{7f}"`,
	"\u0080":           `"\u{80}"`,
	"\u009f":           `"\u{9f}"`,
	"\u00a0":           `"\u{a0}"`,
	"\u00a1":           "\"\u00a1\"",
	"\u00ad":           "\"\u00ad\"",
	"\u2028":           "\"\u2028\"",
	"\u3000":           "\"\u3000\"",
	"\ud7ff\ue000":     "\"\ud7ff\ue000\"",
	"\ufffd":           "\"\ufffd\"",
	"\ufffd\xff":       "\"\ufffd\\x{ff}\"",
	"\ufeff\uffff":     "\"\ufeff\uffff\"",
	"\U0010ffff":       "\"\U0010ffff\"",
	"\x80":             `"\x{80}"`,
	"\xc3\xff":         `"\x{c3}\x{ff}"`,
	"\xc3\u00e4":       "\"\\x{c3}\u00e4\"",
	"\u00e4\xa4":       "\"\u00e4\\x{a4}\"",
	"\xed\xa0\x80":     `"\x{ed}\x{a0}\x{80}"`,
	"\xf4\x90\x80\x80": `"\x{f4}\x{90}\x{80}\x{80}"`,
	"\xc0\x80":         `"\x{c0}\x{80}"`,
	"\xe4\xb8a":        `"\x{e4}\x{b8}a"`,
	"\xef\xbf":         `"\x{ef}\x{bf}"`,
	"\xff\x00\u0085z":  `"\x{ff}\u{0}\u{85}z"`,
}

// unquotable are texts that are nobody's quotes, most of them nearly ones.
var unquotable = []string{
	"", `"`, `'`, `a`, `ab`, `a"`, `"a`, `a""`, `""a`, ` ""`, `"" `, `""""`, `"""`, `"a"b"`, `'a'`,
	// A rune that stands as it is isn't written by its number; another one isn't written as it is.
	`"\u{61}"`, `"\u{20}"`, `"\u{7e}"`, `"\u{a1}"`, `"\u{e4}"`, `"\u{fffd}"`, `"\u{10ffff}"`,
	"\"\x00\"", "\"\n\"", "\"\x1f\"", "\"\x7f\"", "\"\u0080\"", "\"\u00a0\"",
	// Bytes.
	"\"\xff\"", "\"\xc3\"", "\xff", "\"\xed\xa0\x80\"", `"\x{61}"`, `"\x{0}"`, `"\x{00}"`, `"\x{7f}"`, `"\x{22}"`,
	`"\x{c3}\x{a4}"`, `"\x{e4}\x{b8}\x{ad}"`, `"\x{ef}\x{bf}\x{bd}"`, `"\x{f0}\x{9f}\x{98}\x{80}"`, `"a\x{c3}\x{a4}b"`,
	`"\x{f}"`, `"\x{0ff}"`, `"\x{100}"`, `"\x{1ff}"`, `"\x{ffff}"`, `"\x{FF}"`, `"\x{Ff}"`, `"\x{}"`, `"\x{gg}"`, `"\xff"`, `"\xffff"`,
	// Numbers.
	`"\u{0a}"`, `"\u{00}"`, `"\u{A}"`, `"\u{5C}"`, `"\u{}"`, `"\u{g}"`, `"\u{a }"`, `"\u{ a}"`, `"\u{+a}"`, `"\u{-a}"`, `"\u{a_0}"`, `"\u{0xa}"`,
	`"\u{d800}"`, `"\u{dfff}"`, `"\u{110000}"`, `"\u{10000000a}"`, `"\u{1000000000000000a}"`, `"\u{ffffffff}"`, "\"\\u{\uff11}\"",
	// Forms that are cut, or of another kind.
	`"\"`, `"\\"`, `"\u"`, `"\u{"`, `"\u{a"`, `"\ua}"`, `"\u}"`, `"\}"`, `"\{a}"`, `"u{a"\`, `"\n"`, `"\t"`, `"\""`, `"\U{a}"`, `"\X{ff}"`, `"\v{a}"`,
	`"\u[a]"`, `"\u(a}"`, `"\u{a)"`, `"\u {a}"`, `"\ u{a}"`, `"\u{a}`, `\u{a}"`, `\u{a}`, `"\x{ff"`, `"\x"`, `"\a"`, `"\u{\u{a}}"`, `"a\"`,
	"\u201ca\u201d",
}

func TestP1_1Quote(t *testing.T) {
	for s, want := range quotes {
		if got := glyph.Quote(s); got != want {
			t.Errorf("Quote(%q): %s, want %s", s, got, want)
		}
	}
	runes(func(r rune) {
		want := `"\u{` + strconv.FormatInt(int64(r), 16) + `}"`
		if r != '"' && r != '\\' && (r >= 0x20 && r <= 0x7e || r >= 0xa1) {
			want = `"` + string(r) + `"`
		}
		if got := glyph.Quote(string(r)); got != want {
			t.Fatalf("Quote of rune %x: %s, want %s", r, got, want)
		}
	})
	for b := 0x80; b <= 0xff; b++ {
		want := `"\x{` + strconv.FormatInt(int64(b), 16) + `}"`
		if got := glyph.Quote(string([]byte{byte(b)})); got != want {
			t.Errorf("Quote of byte %x: %s, want %s", b, got, want)
		}
	}
}

func TestP1_1Unquote(t *testing.T) {
	for want, s := range quotes {
		if got, e := glyph.Unquote(s); got != want || e != api.OK {
			t.Errorf("Unquote(%s): %q, %d, want %q", s, got, e, want)
		}
	}
	for _, s := range unquotable {
		if got, e := glyph.Unquote(s); got != "" || e != api.ErrForm {
			t.Errorf("Unquote(%q): %q, %d", s, got, e)
		}
	}
}

func TestP1_2UnquoteAnswersOfEachQuoteTheText(t *testing.T) {
	check := func(s string) {
		if got, e := glyph.Unquote(glyph.Quote(s)); got != s || e != api.OK {
			t.Fatalf("Unquote of %q's quote: %q, %d", s, got, e)
		}
	}
	short(check)
	runes(func(r rune) { check(string(r)) })
	check(strings.Repeat("a\x00\xff\u00e4\"\\", 5000))
}

func TestP1_2UnquoteAnswersOfNoOtherText(t *testing.T) {
	check := func(s string) {
		x, e := glyph.Unquote(s)
		if e == api.OK && glyph.Quote(x) != s || e != api.OK && (e != api.ErrForm || x != "") {
			t.Fatalf("Unquote(%q): %q, %d", s, x, e)
		}
	}
	short(func(s string) {
		check(s)
		check(`"` + s + `"`)
	})
	pieces := []string{"", `\`, `"`, "u", "x", "{", "}", "0", "a", "c3", "a4", "ff", "61", "10ffff", "\x00", "\xff", "\u00e4", `\u{`, `\x{`}
	for _, a := range pieces {
		for _, b := range pieces {
			for _, c := range pieces {
				for _, d := range pieces {
					check(`"` + a + b + c + d + `"`)
					check(`"\u{` + a + b + c + d + `}"`)
					check(`"\x{` + a + b + c + d + `}"`)
				}
			}
		}
	}
	// One byte more, less or other makes a quote another text's, or nobody's.
	for s, quote := range quotes {
		for i := range len(quote) {
			for _, r := range []string{"", "0", "a", "A", "}", `\`, `"`, "\xff"} {
				near := quote[:i] + r + quote[i+1:]
				if got, e := glyph.Unquote(near); near != quote && e == api.OK && got == s {
					t.Errorf("Unquote(%q) answers %q, whose quote is %q", near, s, quote)
				}
				check(near)
			}
		}
	}
}
