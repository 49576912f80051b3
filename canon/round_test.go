package canon_test

import (
	"strings"
	"testing"
	"unicode/utf8"

	"stile/api"
	"stile/canon"
	"stile/grammar"
	"stile/sigil"
)

// returns: is what is printed parsed as what it was?
func returns(t *testing.T, c api.Config) {
	t.Helper()
	s, e := canon.Print(c)
	if e != api.OK {
		t.Fatalf("Print(%.300s): %d", ofConfig(c), e)
	}
	got, p, e := grammar.Parse(s)
	if utf8.RuneCountInString(s) > api.MaxConfig {
		if e != api.ErrFull {
			t.Fatalf("Parse(%.300q): %d, want ErrFull", s, e)
		}
		return
	}
	if e != api.OK || p != (sigil.Place{}) || ofConfig(got) != ofConfig(c) {
		t.Fatalf("P8.2: Parse(%.300q): %.300s, %v, %d, want %.300s", s, ofConfig(got), p, e, ofConfig(c))
	}
}

// returnsExpr: likewise of an expression.
func returnsExpr(t *testing.T, n node) {
	t.Helper()
	s, e := canon.Expr(n)
	if e != api.OK {
		t.Fatalf("Expr(%s): %d", ofNode(n), e)
	}
	if got, p, e := grammar.Expr(s); e != api.OK || p != (sigil.Place{}) || ofNode(got) != ofNode(n) {
		t.Fatalf("P8.2: Expr(%q): %s, %v, %d, want %s", s, ofNode(got), p, e, ofNode(n))
	}
}

func TestP8_2ExpressionsThereAndBack(t *testing.T) {
	for _, n := range shapes(6) {
		returnsExpr(t, n)
	}
	// As deep as they may be: brackets within brackets, too.
	lines(func(n node) { returnsExpr(t, n) })
	returnsExpr(t, wide(api.MaxNodes))
	m := newMaker(82)
	for range 5000 {
		returnsExpr(t, m.fitting())
	}
}

func TestP8_2ConfigurationsThereAndBack(t *testing.T) {
	returns(t, api.Config{})
	returns(t, whole())
	m := newMaker(820)
	for range 2000 {
		returns(t, m.config())
	}
}

// named is a configuration of types without relations, with names so long:
// each has 10 runes more in its text.
func named(sizes ...int) api.Config {
	var c api.Config
	for _, n := range sizes {
		c.Types = append(c.Types, api.Type{Name: strings.Repeat("a", n)})
	}
	return c
}

func TestP8_2AtMostMaxConfigRunes(t *testing.T) {
	var sizes []int
	for range 114 {
		sizes = append(sizes, 16)
	}
	for last, want := range map[int]int{7: api.MaxConfig - 1, 8: api.MaxConfig, 9: api.MaxConfig + 1} {
		c := named(append([]int{8, last}, sizes...)...)
		s, e := canon.Print(c)
		if n := utf8.RuneCountInString(s); n != want || e != api.OK {
			t.Errorf("Print: %d runes, %d, want %d", n, e, want)
		}
		returns(t, c)
	}
}

// stays: is what a text is parsed as well made, and has it one text?
func stays(t *testing.T, s, want string) {
	t.Helper()
	c, _, e := grammar.Parse(s)
	if e != api.OK {
		t.Fatalf("Parse(%.300q): %d", s, e)
	}
	if !canon.Good(c) {
		t.Fatalf("P8.3: %.300q: it isn't well made", s)
	}
	printed, e := canon.Print(c)
	if e != api.OK || printed != want {
		t.Fatalf("P8.3: %.300q: %.300q, %d, want %.300q", s, printed, e, want)
	}
	again, _, e := grammar.Parse(printed)
	if e != api.OK || !canon.Good(again) {
		t.Fatalf("P8.3: Parse(%.300q): %d", printed, e)
	}
	if second, e := canon.Print(again); e != api.OK || second != printed {
		t.Fatalf("P8.3: %.300q, printed again: %.300q, %d", printed, second, e)
	}
}

func TestP8_3OneText(t *testing.T) {
	stays(t, "", "")
	stays(t, " // nothing", "")
	stays(t, wholeText, wholeText)
	stays(t, "\u3000// \u00e4\n"+strings.NewReplacer("\n", " ", "  ", "\t", ", ", " ,\r", "#", " # ", ":*", ": *", " = ", "=(", ";", ") ;", "->", "//\n->\u3000").Replace(wholeText), wholeText)
	stays(t, "type user{}type group{rel member[user,group#member]=this;}type doc{rel parent[doc]=((this));rel banned[user:*,group#member,user]=this;rel viewer[user,group#member,user:*]=((this)|(parent->viewer))-(banned);rel editor=viewer;}", wholeText)
	for s, want := range map[string]string{
		"a|b|(c)": "a | b | c", "a|(b|c)": "a | (b | c)", "(a)-((b))": "a - b", "((a-b))-c": "(a - b) - c", "a&(b-c)": "a & b - c",
		"(a&b)|(c&d)": "a & b | c & d", "(a|b)&(c)": "(a | b) & c", "((((((((this))))))))": "this", "a->b-(this)": "a->b - this",
	} {
		line := func(s string) string { return "type t {\n  rel r [user] = " + s + ";\n}\n" }
		stays(t, line(s), line(want))
		stays(t, line(strings.ReplaceAll(s, "(", "(\n//)\n")), line(want))
	}
	m := newMaker(83)
	for range 1000 {
		c := m.config()
		s := modelConfig(c)
		if utf8.RuneCountInString(s) <= api.MaxConfig {
			stays(t, s, s)
			stays(t, strings.NewReplacer("\n", "", "  rel", "rel", " = ", "=", ", ", ",", " | ", "|", " & ", "&", " - ", "-", " {", "{", " [", "[", "] ", "]").Replace(s), s)
		}
	}
}

// What is parsed may have expressions that are too great, or too deep; in
// everything else it is well made.
func TestP8_3ButForSizesAndDepths(t *testing.T) {
	for s, good := range map[string]bool{
		"a" + strings.Repeat("|a", 22):                                    true,
		"a" + strings.Repeat("|a", 23):                                    false,
		"this" + strings.Repeat("&a->b", 400):                             false,
		strings.Repeat("a|(", 6) + "a|b" + strings.Repeat(")", 6):         true,
		strings.Repeat("a|(", 7) + "a|b" + strings.Repeat(")", 7):         false,
		strings.Repeat("a|b&(", 3) + "a-b" + strings.Repeat(")", 3):       true,
		strings.Repeat("a|b&(", 3) + "a|b-c" + strings.Repeat(")", 3):     false,
		strings.Repeat("a|b&(", 3) + "a|b&c-a" + strings.Repeat(")", 3):   false,
		strings.Repeat("a|b&c-(", 8) + "a|b&c-d" + strings.Repeat(")", 8): false,
	} {
		c, _, e := grammar.Parse("type t { rel q [user, a#b, b:*] = this; rel r [t#r] = " + s + "; rel s = q; }")
		if e != api.OK {
			t.Fatalf("Parse of %q: %d", s, e)
		}
		if n := c.Types[0].Rels[1].Expr; good != (nodes(n) <= api.MaxNodes && depth(n) <= api.MaxNest) {
			t.Fatalf("%q: of %d nodes, %d deep", s, nodes(n), depth(n))
		}
		if good {
			prints(t, c, modelConfig(c))
			returns(t, c)
		} else {
			unmade(t, c)
		}
		c.Types[0].Rels[1].Expr = this()
		prints(t, c, modelConfig(c))
	}
}
