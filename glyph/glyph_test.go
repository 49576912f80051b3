package glyph_test

import (
	"math"
	"slices"
	"strconv"
	"strings"
	"testing"
	"unicode/utf8"
	"unsafe"

	"stile/api"
	"stile/glyph"
)

// forms are texts with the number of their runes, or -1, if they aren't UTF-8.
var forms = map[string]int{
	"":                         0,
	"a":                        1,
	"\x00":                     1,
	"\x7f":                     1,
	"\xc2\x80":                 1, // the first of two bytes
	"\xdf\xbf":                 1, // the last of two bytes
	"\xe0\xa0\x80":             1, // the first of three bytes
	"\xed\x9f\xbf":             1, // D7FF
	"\xee\x80\x80":             1, // E000
	"\xef\xbf\xbd":             1, // FFFD, which stray bytes are taken for
	"\xef\xbf\xbf":             1, // the last of three bytes
	"\xf0\x90\x80\x80":         1, // the first of four bytes
	"\xf4\x8f\xbf\xbf":         1, // 10FFFF
	"\xef\xbf\xbd\xef\xbf\xbd": 2,
	"a\u00e4\u4e2d\U0001f600":  4,
	"e\u0301":                  2, // what is joined counts apart

	"\x80":                     -1, // the middle of a form
	"\xbf":                     -1,
	"\xc0\x80":                 -1, // too long a form of 0
	"\xc1\xbf":                 -1, // of 7F
	"\xe0\x9f\xbf":             -1, // of 7FF
	"\xf0\x8f\xbf\xbf":         -1, // of FFFF
	"\xed\xa0\x80":             -1, // D800
	"\xed\xbf\xbf":             -1, // DFFF
	"\xf4\x90\x80\x80":         -1, // 110000
	"\xf5\x80\x80\x80":         -1,
	"\xf8\x88\x80\x80\x80":     -1,
	"\xfe":                     -1,
	"\xff":                     -1,
	"\xc3":                     -1, // a form's front alone
	"\xe4\xb8":                 -1,
	"\xf0\x9f\x98":             -1,
	"\xef\xbf":                 -1,
	"\xef\xbf\xef\xbf\xbd":     -1,
	"\xef\xbf\xbd\xef":         -1,
	"\xef\xbf\xbd\xff":         -1,
	"\xff\xef\xbf\xbd":         -1,
	"a\xc3b":                   -1,
	"abc\xff":                  -1,
	"\u00e4\x80":               -1,
	"\xc3\u00e4":               -1,
	"\xf0\x9f\x98\u00e4\u4e2d": -1,
}

// short goes through all texts of at most two bytes, and of three and four of
// the bytes at which forms begin, go on or break.
func short(visit func(s string)) {
	visit("")
	for a := range 256 {
		visit(string([]byte{byte(a)}))
		for b := range 256 {
			visit(string([]byte{byte(a), byte(b)}))
		}
	}
	edges := []byte("a\"\\\x00\x7f\x80\x8f\x90\x9f\xa0\xbd\xbf\xc0\xc2\xdf\xe0\xed\xef\xf0\xf4\xff")
	for _, a := range edges {
		for _, b := range edges {
			for _, c := range edges {
				visit(string([]byte{a, b, c}))
				for _, d := range edges {
					visit(string([]byte{a, b, c, d}))
				}
			}
		}
	}
}

// runes goes through all of them.
func runes(visit func(r rune)) {
	for r := rune(0); r <= 0x10FFFF; r++ {
		if r < 0xD800 || r > 0xDFFF {
			visit(r)
		}
	}
}

func TestP1_1ValidAndCount(t *testing.T) {
	for s, want := range forms {
		fault := api.OK
		if want < 0 {
			want, fault = 0, api.ErrText
		}
		if got := glyph.Valid(s); got != (fault == api.OK) {
			t.Errorf("Valid(%q): %v", s, got)
		}
		if n, e := glyph.Count(s); n != want || e != fault {
			t.Errorf("Count(%q): %d, %d, want %d, %d", s, n, e, want, fault)
		}
	}
	short(func(s string) {
		if glyph.Valid(s) != utf8.ValidString(s) {
			t.Fatalf("Valid(%q)", s)
		}
	})
	runes(func(r rune) {
		if n, e := glyph.Count(string(r)); n != 1 || e != api.OK {
			t.Fatalf("Count of rune %x: %d, %d", r, n, e)
		}
	})
	if n, e := glyph.Count(strings.Repeat("\u00e4b", 5000)); n != 10000 || e != api.OK {
		t.Errorf("Count of a long text: %d, %d", n, e)
	}
}

func TestP1_1Name(t *testing.T) {
	for s, want := range map[string]bool{
		"": false, "a": true, "z": true, "doc": true, "a_": true, "a__9": true, "type": true,
		strings.Repeat("a", 15): true, strings.Repeat("a", 16): true, strings.Repeat("a", 17): false,
		"a" + strings.Repeat("_", 15): true, "a" + strings.Repeat("9", 16): false,
		"\u00e4": false, "a\u00e4": false, "a\uff41": false, "a\u0660": false, "a\x00": false, "a ": false, " a": false,
		"a-b": false, "aB": false, "a\xff": false, "\xc3": false, strings.Repeat("a", 1<<20): false,
	} {
		if got := glyph.Name(s); got != want {
			t.Errorf("Name(%q): %v", s, got)
		}
	}
	for b := range 256 {
		first, later := "abcdefghijklmnopqrstuvwxyz", "abcdefghijklmnopqrstuvwxyz0123456789_"
		s := string([]byte{byte(b)})
		if got := glyph.Name(s); got != strings.Contains(first, s) {
			t.Errorf("Name(%q): %v", s, got)
		}
		for _, ahead := range []string{"a", "abcdefghijklmno"} {
			if got := glyph.Name(ahead + s); got != strings.Contains(later, s) {
				t.Errorf("Name(%q): %v", ahead+s, got)
			}
		}
	}
}

func TestP1_1Id(t *testing.T) {
	for s, want := range map[string]bool{
		"": false, "\u00e4": true, "a b": false, "A-1.b/c": true, "9": true, "-": true, "\ufffd": true, "e\u0301": true,
		strings.Repeat("a", 23): true, strings.Repeat("a", 24): true, strings.Repeat("a", 25): false,
		strings.Repeat("\U0001f600", 24): true, strings.Repeat("\U0001f600", 25): false,
		strings.Repeat("a", 23) + "\xff": false, strings.Repeat("a", 23) + " ": false, strings.Repeat("a", 23) + "\u00e4": true,
		"a\n": false, "*": false, "a*": false, "user:ann": false, "a\xc3": false, "\xed\xa0\x80": false, strings.Repeat("\u00e4", 1<<20): false,
	} {
		if got := glyph.Id(s); got != want {
			t.Errorf("Id(%q): %v", s, got)
		}
	}
	for s, n := range forms {
		if n < 0 && glyph.Id(s) {
			t.Errorf("Id(%q): it isn't UTF-8", s)
		}
	}
	runes(func(r rune) {
		want := r >= 0x21 && r <= 0x7e || r >= 0xa1
		switch r {
		case '#', '@', ':', '*', ',', '(', ')', '"', '\\', ';':
			want = false
		}
		if glyph.Id(string(r)) != want || glyph.Id("a"+string(r)) != want {
			t.Fatalf("Id of rune %x: not %v", r, want)
		}
	})
}

func TestP1_1Clip(t *testing.T) {
	text := "\u00e4b\u4e2d\ufffd\U0001f600"
	for _, c := range []struct {
		s    string
		n    int
		want string
		e    api.Errno
	}{
		{text, 0, "", api.OK}, {text, 1, "\u00e4", api.OK}, {text, 2, "\u00e4b", api.OK}, {text, 3, "\u00e4b\u4e2d", api.OK},
		{text, 4, "\u00e4b\u4e2d\ufffd", api.OK}, {text, 5, text, api.OK}, {text, 6, text, api.OK}, {text, math.MaxInt, text, api.OK},
		{text, -1, "", api.ErrRange}, {text, math.MinInt, "", api.ErrRange},
		{"", 0, "", api.OK}, {"", 1, "", api.OK}, {"", -1, "", api.ErrRange},
		{"ab\xff", 0, "", api.ErrText}, {"ab\xff", 1, "", api.ErrText}, {"ab\xff", 2, "", api.ErrText}, {"ab\xff", 9, "", api.ErrText},
		{"\xffab", 1, "", api.ErrText}, {"\xc3", 0, "", api.ErrText},
		{"e\u0301", 1, "e", api.OK},
	} {
		if got, e := glyph.Clip(c.s, c.n); got != c.want || e != c.e {
			t.Errorf("Clip(%q, %d): %q, %d, want %q, %d", c.s, c.n, got, e, c.want, c.e)
		}
	}
	for s, n := range forms {
		if _, e := glyph.Clip(s, 1); (e == api.OK) != (n >= 0) {
			t.Errorf("Clip(%q, 1): %d", s, e)
		}
	}
}

func TestP1_1Compare(t *testing.T) {
	rising := []string{"", "\x00", "\x00\x00", "A", "a", "a\x00", "aa", "ab", "b", "\x7f", "\x80", "\xc3", "\u00e4", "\u00e4a", "\xef\xbf\xbf", "\xf0\x90\x80\x80", "\xff", "\xff\x00", "\xff\xff"}
	for i, a := range rising {
		for j, b := range rising {
			want := 0
			if i < j {
				want = -1
			} else if i > j {
				want = 1
			}
			if got := glyph.Compare(a, b); got != want {
				t.Errorf("Compare(%q, %q): %d, want %d", a, b, got, want)
			}
		}
	}
}

func TestP1_3CompareTellsTheOrderOfRunes(t *testing.T) {
	last, have := "", false
	runes(func(r rune) {
		s := string(r)
		if have && (glyph.Compare(last, s) != -1 || glyph.Compare(s, last) != 1 || glyph.Compare(s, s) != 0) {
			t.Fatalf("Compare at rune %x", r)
		}
		last, have = s, true
	})
	pool := []string{"", "\x00", "a", "\x7f", "\u0080", "\u07ff", "\u0800", "\ud7ff", "\ue000", "\ufffd", "\uffff", "\U00010000", "\U0010ffff"}
	for _, a := range pool {
		for _, b := range pool {
			for _, c := range pool {
				for _, d := range pool {
					want := slices.Compare([]rune(a+b), []rune(c+d))
					if got := glyph.Compare(a+b, c+d); got != want {
						t.Errorf("Compare(%q, %q): %d, want %d", a+b, c+d, got, want)
					}
				}
			}
		}
	}
}

// odd are arguments of all kinds, wrong ones too.
func odd() []string {
	l := []string{strings.Repeat("\xff", 3000), strings.Repeat("\\", 3000), strings.Repeat("\"", 3000), "\"" + strings.Repeat("\\u{", 3000), "\"\\u{" + strings.Repeat("f", 3000) + "}\"", strings.Repeat("\ufffd", 3000)}
	for s := range forms {
		l = append(l, s, glyph.Quote(s))
	}
	return append(l, unquotable...)
}

func TestP9EveryCallEnds(t *testing.T) {
	calls := func(s string) {
		glyph.Valid(s)
		glyph.Count(s)
		glyph.Name(s)
		glyph.Id(s)
		for _, n := range []int{math.MinInt, -1, 0, 1, 2, len(s), len(s) + 1, math.MaxInt} {
			glyph.Clip(s, n)
		}
		glyph.Quote(s)
		glyph.Unquote(s)
		glyph.Unquote("\"" + s + "\"")
		glyph.Compare(s, s+"a")
	}
	short(calls)
	for _, s := range odd() {
		calls(s)
	}
}

func TestP10IntHas64Bits(t *testing.T) {
	if strconv.IntSize != 64 {
		t.Errorf("R1: int has %d bits", strconv.IntSize)
	}
}

func TestP10FirstErrorIsTold(t *testing.T) {
	for s, n := range forms {
		if _, e := glyph.Clip(s, -1); e != api.ErrRange {
			t.Errorf("R2: Clip(%q, -1), of %d runes: %d", s, n, e)
		}
	}
}

func TestP10ErrorsStandAlone(t *testing.T) {
	for _, s := range odd() {
		if n, e := glyph.Count(s); e != api.OK && n != 0 {
			t.Errorf("R3: Count(%q): %d, %d", s, n, e)
		}
		for _, n := range []int{-1, 0, 1, math.MaxInt} {
			if x, e := glyph.Clip(s, n); e != api.OK && x != "" {
				t.Errorf("R3: Clip(%q, %d): %q, %d", s, n, x, e)
			}
		}
		if x, e := glyph.Unquote(s); e != api.OK && x != "" {
			t.Errorf("R3: Unquote(%q): %q, %d", s, x, e)
		}
	}
}

// shares: has b a byte of a's memory?
func shares(a, b string) bool {
	if a == "" || b == "" {
		return false
	}
	from, to := uintptr(unsafe.Pointer(unsafe.StringData(a))), uintptr(unsafe.Pointer(unsafe.StringData(b)))
	return from < to+uintptr(len(b)) && to < from+uintptr(len(a))
}

func TestP10AnswersAreNewMemory(t *testing.T) {
	for _, s := range []string{"ab", "abcdefghijklmnopqrstuvwxyz", "\u00e4\u4e2d", `"ab"`, `"abcdefghijklmnopqrstuvwxyz"`} {
		for _, n := range []int{1, 2, 3, 100} {
			if x, _ := glyph.Clip(s, n); shares(s, x) {
				t.Errorf("R6: Clip(%q, %d) shares memory with it", s, n)
			}
		}
		if shares(s, glyph.Quote(s)) {
			t.Errorf("R6: Quote(%q) shares memory with it", s)
		}
		if x, _ := glyph.Unquote(s); shares(s, x) {
			t.Errorf("R6: Unquote(%q) shares memory with it", s)
		}
	}
}

func TestP10AnswersHangOnArgumentsAlone(t *testing.T) {
	type answers struct {
		valid, name, id     bool
		count               int
		clip, quote, text   string
		counted, cut, taken api.Errno
		compared            int
	}
	ask := func(s string) answers {
		a := answers{valid: glyph.Valid(s), name: glyph.Name(s), id: glyph.Id(s), quote: glyph.Quote(s), compared: glyph.Compare(s, "m")}
		a.count, a.counted = glyph.Count(s)
		a.clip, a.cut = glyph.Clip(s, 2)
		a.text, a.taken = glyph.Unquote(s)
		return a
	}
	texts := odd()
	var first []answers
	for _, s := range texts {
		first = append(first, ask(s))
	}
	for i := len(texts) - 1; i >= 0; i-- {
		if ask(strings.Clone(texts[i])) != first[i] {
			t.Errorf("R8: %q: another answer the second time", texts[i])
		}
	}
}
