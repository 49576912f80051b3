package sigil_test

import (
	"fmt"
	"regexp"
	"slices"
	"strings"
	"testing"
	"unicode/utf8"

	"stile/api"
	"stile/sigil"
)

func at(line, column int) sigil.Place { return sigil.Place{Line: line, Column: column} }

// show tells tokens: of each its kind, its text and its place.
func show(l []sigil.Token) string {
	var b strings.Builder
	for k, x := range l {
		if k > 0 {
			b.WriteByte(' ')
		}
		fmt.Fprintf(&b, "%d:%s@%d.%d", x.Kind, x.Text, x.At.Line, x.At.Column)
	}
	return b.String()
}

// place is counted by what is ahead of the byte i of s.
func place(s string, i int) sigil.Place {
	ahead := s[:i]
	line := ahead[strings.LastIndex(ahead, "\n")+1:]
	return at(strings.Count(ahead, "\n")+1, utf8.RuneCountInString(line)+1)
}

// The chapter's words, as patterns.
var (
	word  = regexp.MustCompile(`^[a-z][a-z0-9_]*`)
	sign  = regexp.MustCompile(`^[{}\[\]()=;,:#*|&-]`)
	blank = regexp.MustCompile("^[\x09\x0a\x0d\x20\\x{3000}]")
	skip  = regexp.MustCompile("^//[^\x0a]*")
	kinds = map[string]int{"type": sigil.Type, "rel": sigil.Rel, "this": sigil.This, "->": sigil.To}
)

// token is the text of the one at the front of s, "" if there is none.
func token(s string) string {
	if strings.HasPrefix(s, "->") {
		return "->"
	}
	if x := word.FindString(s); x != "" {
		return x
	}
	return sign.FindString(s)
}

func kind(text string) int {
	switch {
	case kinds[text] != 0:
		return kinds[text]
	case word.MatchString(text):
		return sigil.Word
	}
	return int(text[0])
}

// model is what Lex must answer, by the patterns.
func model(s string) ([]sigil.Token, sigil.Place, api.Errno) {
	if !utf8.ValidString(s) {
		return nil, sigil.Place{}, api.ErrText
	}
	if utf8.RuneCountInString(s) > 3000 {
		return nil, sigil.Place{}, api.ErrFull
	}
	var l []sigil.Token
	for i := 0; i < len(s); {
		if n := len(blank.FindString(s[i:])) + len(skip.FindString(s[i:])); n > 0 {
			i += n
			continue
		}
		x := token(s[i:])
		if x == "" || len(x) > 16 {
			return nil, place(s, i), api.ErrLex
		}
		l = append(l, sigil.Token{Kind: kind(x), Text: x, At: place(s, i)})
		i += len(x)
	}
	return l, place(s, len(s)), api.OK
}

func check(t *testing.T, s string) {
	t.Helper()
	l, p, e := sigil.Lex(s)
	wantL, wantP, wantE := model(s)
	if !slices.Equal(l, wantL) || p != wantP || e != wantE {
		t.Fatalf("Lex(%.80q): %.200s, %v, %d, want %.200s, %v, %d", s, show(l), p, e, show(wantL), wantP, wantE)
	}
}

// lexes: does Lex answer these tokens, as show tells them, and this end?
func lexes(t *testing.T, s, want string, end sigil.Place) {
	t.Helper()
	l, p, e := sigil.Lex(s)
	if show(l) != want || p != end || e != api.OK {
		t.Errorf("Lex(%.80q): %.200s, %v, %d, want %.200s, %v", s, show(l), p, e, want, end)
	}
}

// refused: does Lex answer this error, with this place, and nothing beside?
func refused(t *testing.T, s string, want api.Errno, p sigil.Place) {
	t.Helper()
	if l, q, e := sigil.Lex(s); len(l) != 0 || q != p || e != want {
		t.Errorf("Lex(%.80q): %.200s, %v, %d, want %v, %d", s, show(l), q, e, p, want)
	}
}

// texts goes through all that are made of at most most of the pieces.
func texts(most int, pieces []string, visit func(s string)) {
	visit("")
	if most == 0 {
		return
	}
	for _, p := range pieces {
		texts(most-1, pieces, func(s string) { visit(p + s) })
	}
}

// pieces are some of each kind, and such as nothing begins with.
var pieces = []string{"a", "z9", "_", "0", "A", "-", ">", "/", "//", "\n", "\r", " ", "\u3000", "{", "*", "type", "rel", "this", "\u00e4", "\u00a0", "\ufffd", "\xff", "\xe3\x80"}

func TestP6_1EachSign(t *testing.T) {
	for _, c := range []struct {
		s    string
		kind int
	}{
		{"{", 0x7b}, {"}", 0x7d}, {"[", 0x5b}, {"]", 0x5d}, {"(", 0x28}, {")", 0x29}, {"=", 0x3d}, {";", 0x3b},
		{",", 0x2c}, {":", 0x3a}, {"#", 0x23}, {"*", 0x2a}, {"|", 0x7c}, {"&", 0x26}, {"-", 0x2d},
	} {
		lexes(t, c.s, fmt.Sprintf("%d:%s@1.1", c.kind, c.s), at(1, 2))
		lexes(t, "a"+c.s+c.s+"b", fmt.Sprintf("1:a@1.1 %d:%s@1.2 %d:%s@1.3 1:b@1.4", c.kind, c.s, c.kind, c.s), at(1, 5))
	}
	lexes(t, "{}[]()=;,:#*|&-", "123:{@1.1 125:}@1.2 91:[@1.3 93:]@1.4 40:(@1.5 41:)@1.6 61:=@1.7 59:;@1.8 44:,@1.9 58::@1.10 35:#@1.11 42:*@1.12 124:|@1.13 38:&@1.14 45:-@1.15", at(1, 16))
}

func TestP6_1EachRune(t *testing.T) {
	for r := rune(0); r <= 0x10FFFF; r++ {
		if r >= 0xD800 && r <= 0xDFFF {
			continue
		}
		s := string(r)
		check(t, s)
		if r < 0x3100 || r&0xff == 0 {
			for _, near := range []string{"a" + s, s + "a", "-" + s, s + ">", "\n" + s + s, "/" + s, s + "/", "// " + s + "\n" + s, "[" + s + "]"} {
				check(t, near)
			}
		}
	}
}

func TestP6_1Words(t *testing.T) {
	for text, want := range map[string]int{
		"type": 2, "rel": 3, "this": 4,
		"a": 1, "z": 1, "typ": 1, "re": 1, "thi": 1, "types": 1, "type_": 1, "type0": 1, "rels": 1, "rel_": 1, "rel9": 1, "this1": 1, "thisx": 1, "this_": 1,
		"typetype": 1, "relthis": 1, "atype": 1, "a_type": 1, "xrel": 1, "x1this": 1, "a_": 1, "a9": 1, "a__9z": 1, "z_0": 1,
		"abcdefghijklmno": 1, "abcdefghijklmnop": 1, "a_______________": 1, "a999999999999999": 1, "type567890123456": 1, "this_this_this_t": 1,
	} {
		lexes(t, text, fmt.Sprintf("%d:%s@1.1", want, text), at(1, len(text)+1))
		lexes(t, "-"+text+"#", fmt.Sprintf("45:-@1.1 %d:%s@1.2 35:#@1.%d", want, text, len(text)+2), at(1, len(text)+3))
	}
	// One of more bytes is none, nor two of fewer.
	for _, text := range []string{"abcdefghijklmnopq", "a________________", "a9999999999999999", "type5678901234567", "rel4567890123456_", "this_this_this_th", strings.Repeat("a", 32), strings.Repeat("z", 3000)} {
		refused(t, text, api.ErrLex, at(1, 1))
	}
	refused(t, "type abcdefghijklmnop {\n\u3000rel abcdefghijklmnopq", api.ErrLex, at(2, 6))
	refused(t, "{\u00a0abcdefghijklmnopq", api.ErrLex, at(1, 2))
	refused(t, "{abcdefghijklmnopq\u00a0", api.ErrLex, at(1, 2))
	refused(t, "abcdefghijklmnop\nabcdefghijklmnopqA", api.ErrLex, at(2, 1))
	lexes(t, "// abcdefghijklmnopq\nabcdefghijklmnop // abcdefghijklmnopq", "1:abcdefghijklmnop@2.1", at(2, 38))
	// What isn't small ends a word, or doesn't begin one.
	for s, p := range map[string]sigil.Place{
		"0a": at(1, 1), "9": at(1, 1), "_a": at(1, 1), "_": at(1, 1), " 1": at(1, 2), "a 1a": at(1, 3), "a->_b": at(1, 4),
		"A": at(1, 1), "Type": at(1, 1), "aB": at(1, 2), "typE": at(1, 4), "tHis": at(1, 2), "a_Z": at(1, 3), "a9A9": at(1, 3),
		"\u00e4": at(1, 1), "a\u00e4": at(1, 2), "\uff41": at(1, 1), "a\uff11": at(1, 2), "a\u0301": at(1, 2), "\u0101": at(1, 1), "a.b": at(1, 2), "a'": at(1, 2),
		"a\"b\"": at(1, 2), "@": at(1, 1), "a+b": at(1, 2), "a\\": at(1, 2), "$": at(1, 1), "!a": at(1, 1), "<-": at(1, 1), "a?": at(1, 2), "`": at(1, 1), "~": at(1, 1), "^": at(1, 1), "%": at(1, 1),
	} {
		refused(t, s, api.ErrLex, p)
	}
}

func TestP6_1To(t *testing.T) {
	lexes(t, "->", "5:->@1.1", at(1, 3))
	lexes(t, "->->", "5:->@1.1 5:->@1.3", at(1, 5))
	lexes(t, "-->", "45:-@1.1 5:->@1.2", at(1, 4))
	lexes(t, "--->", "45:-@1.1 45:-@1.2 5:->@1.3", at(1, 5))
	lexes(t, "->-", "5:->@1.1 45:-@1.3", at(1, 4))
	lexes(t, "--", "45:-@1.1 45:-@1.2", at(1, 3))
	lexes(t, "a-", "1:a@1.1 45:-@1.2", at(1, 3))
	lexes(t, "a-b", "1:a@1.1 45:-@1.2 1:b@1.3", at(1, 4))
	lexes(t, "a->type", "1:a@1.1 5:->@1.2 2:type@1.4", at(1, 8))
	lexes(t, "\u3000->\n->", "5:->@1.2 5:->@2.1", at(2, 3))
	for s, p := range map[string]sigil.Place{
		">": at(1, 1), "a>": at(1, 2), "a > b": at(1, 3), "- >": at(1, 3), "-\n>": at(2, 1), "->>": at(1, 3), "=>": at(1, 2), ">-": at(1, 1), "-//\n>": at(2, 1), "-\u3000>": at(1, 3), "-\u2192": at(1, 2), "\u2192": at(1, 1), "-\uff1e": at(1, 2),
	} {
		refused(t, s, api.ErrLex, p)
	}
}

func TestP6_1Example(t *testing.T) {
	lexes(t, "rel a->b // x", "3:rel@1.1 1:a@1.5 5:->@1.6 1:b@1.8", at(1, 14))
	lexes(t, "type doc {\n  rel viewer [user, group#member, user:*] = this | parent->viewer & (a - b);\n}",
		"2:type@1.1 1:doc@1.6 123:{@1.10 3:rel@2.3 1:viewer@2.7 91:[@2.14 1:user@2.15 44:,@2.19 1:group@2.21 35:#@2.26 1:member@2.27 44:,@2.33 1:user@2.35 58::@2.39 42:*@2.40 93:]@2.41 61:=@2.43 4:this@2.45 124:|@2.50 1:parent@2.52 5:->@2.58 1:viewer@2.60 38:&@2.67 40:(@2.69 1:a@2.70 45:-@2.72 1:b@2.74 41:)@2.75 59:;@2.76 125:}@3.1", at(3, 2))
}

func TestP6_1Places(t *testing.T) {
	for s, c := range map[string]struct {
		tokens string
		end    sigil.Place
	}{
		"":                            {"", at(1, 1)},
		"\n":                          {"", at(2, 1)},
		"\n\n\n":                      {"", at(4, 1)},
		"\na":                         {"1:a@2.1", at(2, 2)},
		"a\n":                         {"1:a@1.1", at(2, 1)},
		"a\n\n\n b\n":                 {"1:a@1.1 1:b@4.2", at(5, 1)},
		"a\nb\nc":                     {"1:a@1.1 1:b@2.1 1:c@3.1", at(3, 2)},
		"a\r\nb":                      {"1:a@1.1 1:b@2.1", at(2, 2)},
		"a\rb":                        {"1:a@1.1 1:b@1.3", at(1, 4)},
		"\r\r\n\ra":                   {"1:a@2.2", at(2, 3)},
		"\ta\t\tb":                    {"1:a@1.2 1:b@1.5", at(1, 6)},
		"\u3000a\u3000\u3000b":        {"1:a@1.2 1:b@1.5", at(1, 6)},
		"\u3000\n\u3000\u3000{":       {"123:{@2.3", at(2, 4)},
		"// \u00e4\u4e2d\U0001f600":   {"", at(1, 7)},
		"//\u00e4\n\u3000b//\n":       {"1:b@2.2", at(3, 1)},
		"a//\n\n//\n  // c\nb":        {"1:a@1.1 1:b@5.1", at(5, 2)},
		"a // b\n// c // d\n\n-":      {"1:a@1.1 45:-@4.1", at(4, 2)},
		"\t\n\r \u3000a \t\n\r\u3000": {"1:a@2.4", at(3, 3)},
	} {
		lexes(t, s, c.tokens, c.end)
	}
	// Ten lines of a rune more each.
	s, want := "", ""
	for k := range 10 {
		s += strings.Repeat("\u3000", k) + "a\n"
		want += fmt.Sprintf(" 1:a@%d.%d", k+1, k+1)
	}
	lexes(t, s, want[1:], at(11, 1))
	refused(t, "\n\n \u3000/", api.ErrLex, at(3, 3))
	refused(t, "a // \u00e4\u00e4\n\n{ \u00e4", api.ErrLex, at(3, 3))
}

func TestP6_1Blanks(t *testing.T) {
	for _, b := range []string{"\t", "\r", " ", "\u3000"} {
		lexes(t, b, "", at(1, 2))
		lexes(t, b+"a"+b+b+"->"+b, "1:a@1.2 5:->@1.5", at(1, 8))
		lexes(t, "ty"+b+"pe", "1:ty@1.1 1:pe@1.4", at(1, 6))
		lexes(t, "-"+b+"-", "45:-@1.1 45:-@1.3", at(1, 4))
	}
	for _, r := range []rune{0, 1, 8, 0xb, 0xc, 0xe, 0x1c, 0x1f, 0x7f, 0x85, 0xa0, 0xad, 0x1680, 0x180e, 0x2000, 0x2003, 0x2009, 0x200b, 0x2028, 0x2029, 0x202f, 0x205f, 0x2060, 0x2fff, 0x3001, 0xfeff, 0xfffd, 0x13000, 0x10ffff} {
		s := string(r)
		refused(t, s, api.ErrLex, at(1, 1))
		refused(t, "\u3000\n a"+s+" b", api.ErrLex, at(2, 3))
		lexes(t, "//"+s+s+"\na", "1:a@2.1", at(2, 2))
	}
}

func TestP6_1Remarks(t *testing.T) {
	for s, want := range map[string]string{
		"//": "", "///": "", "////": "", "// a": "", "//a\n": "", "///a\nb": "1:b@2.1", "a//b": "1:a@1.1", "a//b\nc": "1:a@1.1 1:c@2.1",
		"a///b\nc": "1:a@1.1 1:c@2.1", "// a // b\nc": "1:c@2.1", "//\n//\n": "", "//\r a\nb": "1:b@2.1", "//\u2028a\nb": "1:b@2.1", "//\u0085a": "",
		"-//>\na": "45:-@1.1 1:a@2.1", "->//->\n->": "5:->@1.1 5:->@2.1", "type//\nx": "2:type@1.1 1:x@2.1", "ty//\npe": "1:ty@1.1 1:pe@2.1",
		"// \u00e4 \x00 @ ! 1 _ A / > \u00a0 \ufffd abcdefghijklmnopqrstuvwxyz\n{": "123:{@2.1", "//\"\n\n(": "40:(@3.1", "/////": "", "//*\na*": "1:a@2.1 42:*@2.2", "//\n": "",
	} {
		l, p, e := sigil.Lex(s)
		if show(l) != want || p != place(s, len(s)) || e != api.OK {
			t.Errorf("Lex(%q): %s, %v, %d", s, show(l), p, e)
		}
	}
	for s, p := range map[string]sigil.Place{
		"/": at(1, 1), "a/": at(1, 2), "a /b": at(1, 3), "/ /": at(1, 1), "/\n/": at(1, 1), "/* a */": at(1, 1), "/a": at(1, 1), "//\n/": at(2, 1), "-/": at(1, 2), "->/>": at(1, 3),
		"/\u3000/": at(1, 1), "/->": at(1, 1), "\u00f7": at(1, 1), "\uff0f\uff0f": at(1, 1), "/\uff0f": at(1, 1), "\\\\": at(1, 1), "// a\n\n # /": at(3, 4),
	} {
		refused(t, s, api.ErrLex, p)
	}
}

func TestP6_1Lengths(t *testing.T) {
	lexes(t, "", "", at(1, 1))
	for _, r := range []string{" ", "\u3000", "\r"} {
		lexes(t, strings.Repeat(r, 3000), "", at(1, 3001))
		refused(t, strings.Repeat(r, 3001), api.ErrFull, sigil.Place{})
	}
	lexes(t, strings.Repeat("\n", 3000), "", at(3001, 1))
	refused(t, strings.Repeat("\n", 3001), api.ErrFull, sigil.Place{})
	lexes(t, "//"+strings.Repeat("\U0001f600", 2998), "", at(1, 3001))
	refused(t, "//"+strings.Repeat("\U0001f600", 2999), api.ErrFull, sigil.Place{})
	for _, s := range []string{strings.Repeat("{", 3000), strings.Repeat("->", 1500), strings.Repeat("a ", 1500), strings.Repeat("-", 3000), strings.Repeat("\u3000a\n", 1000), strings.Repeat("abcdefghijklmnop;", 176)} {
		check(t, s)
		if _, p, e := sigil.Lex(s + strings.Repeat(" ", 3001-utf8.RuneCountInString(s))); e != api.ErrFull || p != (sigil.Place{}) {
			t.Errorf("Lex of %.20q.., of 3001 runes: %v, %d", s, p, e)
		}
	}
	lexes(t, strings.Repeat(" ", 2999)+"a", "1:a@1.3000", at(1, 3001))
	refused(t, strings.Repeat(" ", 2999)+"A", api.ErrLex, at(1, 3000))
	refused(t, strings.Repeat("\u3000", 2999)+"\u00e4", api.ErrLex, at(1, 3000))
	refused(t, strings.Repeat(" ", 1<<20), api.ErrFull, sigil.Place{})
}

func TestP6_1WhichErrorIsTold(t *testing.T) {
	long := strings.Repeat("\u3000", 3000)
	for _, bad := range []string{"\xff", "\x80", "\xc3", "\xe3\x80", "\xed\xa0\x80", "\xc0\x80", "\xf4\x90\x80\x80", "\xf0\x9f\x98"} {
		// Where it isn't UTF-8, that is told, wherever; no place is.
		for _, s := range []string{bad, "a" + bad, bad + "a", "A" + bad, bad + "A", "/" + bad, "// " + bad, "//\n" + bad, long + bad, bad + long, long + long + bad, "A" + long + bad, "abcdefghijklmnopq" + bad, "\ufffd" + bad} {
			refused(t, s, api.ErrText, sigil.Place{})
		}
	}
	// Then, that it has too many runes; no place is told either.
	for _, s := range []string{"A" + long, long + "A", long + "/", "abcdefghijklmnopq" + long, "\u00a0" + long, long + "\ufffd", strings.Repeat("A", 3001), strings.Repeat("\u00e4", 3001), strings.Repeat("a", 3001)} {
		refused(t, s, api.ErrFull, sigil.Place{})
	}
	// Then, of more that can't be told, the first.
	refused(t, "a\n b A _ abcdefghijklmnopq", api.ErrLex, at(2, 4))
	refused(t, "a\n b abcdefghijklmnopq A _", api.ErrLex, at(2, 4))
	refused(t, "a\n b / abcdefghijklmnopq > 1", api.ErrLex, at(2, 4))
	refused(t, "a > /", api.ErrLex, at(1, 3))
	// A rune that stray bytes are taken for is one that can't be told.
	refused(t, "a \ufffd", api.ErrLex, at(1, 3))
	refused(t, strings.Repeat("\u00e4", 3000), api.ErrLex, at(1, 1))
}

func TestP6_1AllShortTexts(t *testing.T) {
	texts(4, pieces, func(s string) { check(t, s) })
}

func TestP6_1End(t *testing.T) {
	for s, want := range map[string]sigil.Place{
		"": at(1, 1), "a": at(1, 2), "\n": at(2, 1), "a\n": at(2, 1), "\na": at(2, 2), "\n\n\n": at(4, 1), "\r\n\r": at(2, 2), "\r": at(1, 2), "a\n\u00e4b": at(2, 3), "\u3000\u4e2d\U0001f600": at(1, 4),
		"\u2028\u0085\v\f": at(1, 5), "A / > \xef\xbf\xbd": at(1, 8), "// a\n\n//": at(3, 3), "e\u0301": at(1, 3), "\x00": at(1, 2), "abcdefghijklmnopq": at(1, 18),
		// Other than Lex it takes any length.
		strings.Repeat("\u3000", 3001): at(1, 3002), strings.Repeat("\u00e4\n", 5000) + "\u00e4": at(5001, 2),
	} {
		if got := sigil.End(s); got != want {
			t.Errorf("End(%.40q): %v, want %v", s, got, want)
		}
	}
	texts(4, pieces, func(s string) {
		if !utf8.ValidString(s) {
			return
		}
		if got := sigil.End(s); got != place(s, len(s)) {
			t.Fatalf("End(%q): %v", s, got)
		}
		if _, p, e := sigil.Lex(s); e == api.OK && p != sigil.End(s) {
			t.Fatalf("Lex(%q): %v, not its End", s, p)
		}
	})
}

// offset is at which byte of s a place is: -1, if none.
func offset(s string, p sigil.Place) int {
	for i := range s {
		if place(s, i) == p {
			return i
		}
	}
	return -1
}

// within is what may stand between two tokens, behind the last one what may.
var (
	within = regexp.MustCompile("^(?:[\t\n\r \\x{3000}]|//[^\n]*\n)*$")
	behind = regexp.MustCompile("^(?:[\t\n\r \\x{3000}]|//[^\n]*\n)*(?://[^\n]*)?$")
)

// stands: do a text's tokens stand in it, in order, with nothing but what
// means nothing between?
func stands(t *testing.T, s string) {
	t.Helper()
	l, p, e := sigil.Lex(s)
	if e != api.OK {
		return
	}
	next := 0
	for _, x := range l {
		i := offset(s, x.At)
		if i < next || !strings.HasPrefix(s[i:], x.Text) || x.Text == "" || !within.MatchString(s[next:i]) {
			t.Fatalf("P6.2: Lex(%q): %s", s, show(l))
		}
		if kind(x.Text) != x.Kind {
			t.Fatalf("P6.2: Lex(%q): %s: the kind of %s", s, show(l), x.Text)
		}
		next = i + len(x.Text)
	}
	if !behind.MatchString(s[next:]) || p != place(s, len(s)) {
		t.Fatalf("P6.2: Lex(%q): %s, %v", s, show(l), p)
	}
}

func TestP6_2TokensStandInTheText(t *testing.T) {
	texts(4, pieces, func(s string) { stands(t, s) })
	for _, s := range []string{
		"rel a->b // x", "type doc {\n\u3000rel a_1 [x#m, y:*] = this-(b->c|d)&e; // \u00e4->\n}", strings.Repeat("ab\u3000->// \u4e2d\n\r-", 20),
		"// first\n\n//\n a // \u00e4\n{}//\n// last", "\n\ta\n\n\t->//\n\n-", "a----->b---c",
	} {
		if _, _, e := sigil.Lex(s); e != api.OK {
			t.Errorf("Lex(%q): %d", s, e)
		}
		stands(t, s)
	}
}
