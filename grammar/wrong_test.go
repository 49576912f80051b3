package grammar_test

import (
	"slices"
	"strings"
	"testing"
	"unicode/utf8"

	"stile/api"
	"stile/sigil"
)

// wholes are texts without blanks at their ends that are each a whole part.
var wholes = map[string][]string{
	"CONFIG": {
		"type user {}",
		"type user {}\ntype doc { rel a [user, group#m, user:*] = this; rel b = a->c | a; }",
		"type a{rel b[c]=this;rel d=b;}type e{}type f{rel g=(b)-(c&this);}",
		"type t {\n// rel\n\u3000rel r [a#b,\nc:*] = ((a->b|c)&this-d)\r; }\n\ntype u {\n}",
	},
	"UNION": {"this", "a", "a->b", "a|b&c-d", "a - b", "((a))", "(this|(a->b-c)&d)-\n(e|f\n|this)", "a&b&c|\u3000d", "((((((((a))))))))|b"},
}

// tokensOf are a text's, and where each ends.
func tokensOf(t *testing.T, s string) ([]sigil.Token, []int) {
	t.Helper()
	l, _, e := sigil.Lex(s)
	if e != api.OK {
		t.Fatalf("Lex(%q): %d", s, e)
	}
	var ends []int
	next := 0
	for _, x := range l {
		for !utf8.RuneStart(s[next]) || sigil.End(s[:next]) != x.At {
			next++
		}
		next += len(x.Text)
		ends = append(ends, next)
	}
	return l, ends
}

func TestP7_1TheFirstWrongToken(t *testing.T) {
	for s, p := range map[string]sigil.Place{
		// At the front.
		"user": at(1, 1), "{": at(1, 1), "}": at(1, 1), "rel": at(1, 1), "this": at(1, 1), "->": at(1, 1), ";": at(1, 1), "\n\n (": at(3, 2), "rel a = b;": at(1, 1), "{}type a {}": at(1, 1), "// a\nuser // b": at(2, 1),
		// In the middle.
		"type type a {}": at(1, 6), "type a b {}": at(1, 8), "type a { b }": at(1, 10), "type a { rel b this; }": at(1, 16), "type a { rel b = ; }": at(1, 18), "type a { rel b = c d; }": at(1, 20),
		"type a { rel b = c }": at(1, 20), "type a { rel b [] = c; }": at(1, 17), "type a { rel b [c:d] = c; }": at(1, 19), "type a { rel b = [c] this; }": at(1, 18), "type a { rel b == c; }": at(1, 17), "type a { rel = c; }": at(1, 14),
		"type a { rel b = c; ; }": at(1, 21), "type a { rel b = c,d; }": at(1, 19), "type a { type b {} }": at(1, 10), "type a { rel b = c; type b {}": at(1, 21), "type a { rel b = { c }; }": at(1, 18), "type a { rel b = c: }": at(1, 19),
		"type a (rel b = c;)": at(1, 8), "type a; type b {}": at(1, 7), "type rel {}": at(1, 6), "type this {}": at(1, 6), "type a { rel this = b; }": at(1, 14), "type a { rel type = b; }": at(1, 14), "type a { rel rel = b; }": at(1, 14),
		"type a { rel b [this] = this; }": at(1, 17), "type a { rel b [c#this] = this; }": at(1, 19), "type a { rel b [type] = this; }": at(1, 17), "type a { rel b = type; }": at(1, 18), "type a { rel b = c->rel; }": at(1, 21), "type a { rel b = c|rel; }": at(1, 20),
		"type a#b {}": at(1, 7), "type a [b] {}": at(1, 8), "type a = b;": at(1, 8), "type a {}}": at(1, 10), "type a {} {}": at(1, 11), "type a {} rel b = c;": at(1, 11), "type a {} b {}": at(1, 11), "type a {}; type b {}": at(1, 10),
		"type\n{": at(2, 1), "type a {\nrel b = c\nrel d = e; }": at(3, 1), "type a {\n rel b = (c;\n) }": at(2, 12), "type a { rel b = c); }": at(1, 19), "type a { rel b [c] [d] = this; }": at(1, 20), "type a { rel b [c], [d] = this; }": at(1, 19),
		// At the end.
		"type": at(1, 5), "type a": at(1, 7), "type a {": at(1, 9), "type a { rel": at(1, 13), "type a { rel b [": at(1, 17), "type a { rel b =": at(1, 17), "type a { rel b = c": at(1, 19), "type a { rel b = c;": at(1, 20), "type a {} type": at(1, 15),
		"type // {}": at(1, 11), "type a {\n": at(2, 1), "type a {\n\n  ": at(3, 3), "type a { rel b = (c": at(1, 20), "type a { rel b [c": at(1, 18),
	} {
		refused(t, "CONFIG", s, api.ErrSyntax, p)
		refused(t, "CONFIG", "type x { rel y = z; }\n\n"+s, api.ErrSyntax, at(p.Line+2, p.Column))
	}
	for s, column := range map[string]int{
		"|a": 1, "&a": 1, "-a": 1, "->a": 1, ")": 1, "type": 1, "rel": 1, "*": 1, "[a]": 1, "{a}": 1, "=a": 1, ";": 1, "#a": 1, ":*": 1, ",": 1,
		"a b": 3, "a this": 3, "this a": 6, "this this": 6, "a (b)": 3, "(a) b": 5, "(a)(b)": 4, "a||b": 3, "a&&b": 3, "a--b": 3, "a|&b": 3, "a-|b": 3, "a&-b": 3, "a|)": 3, "a->(b)": 4, "(a)->b": 4, "this->a": 5, "a->this": 4, "a->type": 4,
		"a->b->c": 5, "a-b-c": 4, "a - b - c": 7, "a-b->c-d": 7, "a-(b)-c": 6, "(a)-b-c": 6, "a|b-c-d": 6, "a-b-c|d": 4, "a&b-c-d&e": 6, "(a-b-c)": 5, "(a-b)-c-d": 8, "()": 2, "(|a)": 2, "(a|)": 4, "((a)": 5, "(a))": 4, "a)": 2, "a)b": 2,
		"a;": 2, "a=b": 2, "a#b": 2, "a:*": 2, "a[b]": 2, "a,b": 2, "a{}": 2, "a*": 2, "a type": 3, "a rel": 3, "this|rel|a": 6, "type|b": 1, "a-rel": 3, "a&this&type": 8, "this->this": 5,
		"a|": 3, "a&": 3, "a-": 3, "a->": 4, "(": 2, "(a": 3, "(a|b": 5, "((a)|b": 7, "a|(b": 5, "a-(": 4, "a->b-": 6, "this&": 6,
	} {
		refused(t, "UNION", s, api.ErrSyntax, at(1, column))
		refused(t, "UNION", " // a\n\n"+s, api.ErrSyntax, at(3, column))
		if sigil.End(s) != at(1, column) && s[column-1] != ';' {
			refused(t, "CONFIG", "type t {\nrel r =\n"+s+"; }", api.ErrSyntax, at(3, column))
		}
	}
}

// Cut behind each of its tokens, a text lacks something at its end, wherever
// that is; but for those cuts that are whole.
func TestP7_1EachCut(t *testing.T) {
	for part, l := range wholes {
		for _, s := range l {
			_, ends := tokensOf(t, s)
			for k, end := range ends {
				for _, tail := range []string{"", " ", "\n", "\u3000// \u00e4", "\n//\n\r\t"} {
					cut := s[:end] + tail
					agrees(t, part, cut)
					if _, p, e := asked(part, cut); k == len(ends)-1 && e != api.OK || e != api.OK && (e != api.ErrSyntax || p != sigil.End(cut)) {
						t.Errorf("%s of %q: %v, %d", part, cut, p, e)
					}
				}
			}
		}
	}
	// Just these cuts are whole.
	for s, want := range map[string][]int{"type a{}type b{rel c=d;}": {4, 13}, "a->b|(c)": {1, 3, 7}, "a-b&this": {1, 3, 5}} {
		part := "UNION"
		if s[:2] == "ty" {
			part = "CONFIG"
		}
		var got []int
		_, ends := tokensOf(t, s)
		for k, end := range ends {
			if _, _, e := asked(part, s[:end]); e == api.OK {
				got = append(got, k+1)
			}
		}
		if !slices.Equal(got, want) {
			t.Errorf("%s of %q: whole behind %v tokens, not %v", part, s, got, want)
		}
	}
}

// Behind a whole text each token is wrong that doesn't begin more of it.
func TestP7_1OneTokenMore(t *testing.T) {
	for part, l := range wholes {
		for _, s := range l {
			for _, x := range laidOne() {
				place := sigil.End(s + "\n ")
				if more := "\n " + x + " "; part == "CONFIG" && x == "type" || part == "UNION" && strings.Contains("-> | & -", x) {
					agrees(t, part, s+more)
				} else {
					refused(t, part, s+more, api.ErrSyntax, place)
				}
			}
		}
	}
}

// laidOne is one text of each token.
func laidOne() []string {
	l := slices.Clone(tokens)
	l[0] = "a"
	return l
}

// Each token of a text is taken out, doubled, changed for each other one, and
// each other one put ahead of it.
func TestP7_1EachTokenChanged(t *testing.T) {
	for part, l := range wholes {
		for _, s := range l {
			all, _ := tokensOf(t, s)
			var row []string
			for _, x := range all {
				row = append(row, x.Text)
			}
			for k := range row {
				try := func(other ...string) {
					agrees(t, part, strings.Join(slices.Concat(row[:k], other, row[k+1:]), " "))
				}
				try()
				try(row[k], row[k])
				for _, x := range laidOne() {
					try(x)
					try(x, row[k])
				}
			}
		}
	}
}

// All that begins a part, with each token behind it, right or wrong.
func TestP7_1AllShortTexts(t *testing.T) {
	for part, most := range map[string]int{"UNION": 6, "CONFIG": 10} {
		begun(part, most, func(row, next []string) {
			for _, x := range append([]string{""}, tokens...) {
				s := laid(append(slices.Clone(row), x))
				agrees(t, part, s)
				if x != "" && !slices.Contains(next, x) {
					// What stands behind the first wrong token doesn't matter.
					agrees(t, part, s+"\n] type { rel ((((((((((")
				}
			}
		})
	}
}

// Rows of tokens that begin nothing at all, most of them.
func TestP7_1AnyTokens(t *testing.T) {
	m := newMaker(11)
	for range 20000 {
		row := make([]string, m.Intn(12))
		for k := range row {
			row[k] = tokens[m.Intn(len(tokens))]
		}
		s := laid(row)
		agrees(t, "UNION", s)
		agrees(t, "CONFIG", s)
		agrees(t, "CONFIG", "type t { rel r = "+s)
	}
}

// Configurations, and what is left of them when a few tokens are changed.
func TestP7_1AnyConfigurations(t *testing.T) {
	m := newMaker(23)
	for range 2000 {
		c := m.config()
		s := writtenConfig(c, m.gap, m.seldom)
		agrees(t, "CONFIG", s)
		if _, e := model("CONFIG", s); e == api.OK {
			parses(t, s, c)
		}
		all, _, _ := sigil.Lex(s)
		for range 3 {
			var row []string
			for _, x := range all {
				if m.Intn(20) == 0 {
					row = append(row, laidOne()[m.Intn(len(tokens))])
				}
				if m.Intn(20) > 0 {
					row = append(row, x.Text)
				}
			}
			agrees(t, "CONFIG", strings.Join(row, m.gap()+" "))
		}
	}
}
