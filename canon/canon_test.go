package canon_test

import (
	"math"
	"slices"
	"strings"
	"testing"
	"unicode/utf8"

	"stile/api"
	"stile/canon"
)

// prints: is a configuration well made, and of this text?
func prints(t *testing.T, c api.Config, want string) {
	t.Helper()
	if !canon.Good(c) {
		t.Fatalf("Good(%.300s): false", ofConfig(c))
	}
	if s, e := canon.Print(c); s != want || e != api.OK {
		t.Fatalf("Print(%.300s): %.300q, %d, want %.300q", ofConfig(c), s, e, want)
	}
}

// says: has a node this text, alone and within a configuration?
func says(t *testing.T, n node, want string) {
	t.Helper()
	if s, e := canon.Expr(n); s != want || e != api.OK {
		t.Fatalf("Expr(%.300s): %.300q, %d, want %.300q", ofNode(n), s, e, want)
	}
	prints(t, config(n), "type t {\n  rel r = "+want+";\n}\n")
}

// unmade: is a configuration refused, for it isn't well made?
func unmade(t *testing.T, c api.Config) {
	t.Helper()
	if canon.Good(c) {
		t.Errorf("Good(%.300s): true", ofConfig(c))
	}
	if s, e := canon.Print(c); s != "" || e != api.ErrForm {
		t.Errorf("Print(%.300s): %.300q, %d, want ErrForm", ofConfig(c), s, e)
	}
}

// speechless: is a node refused, alone and wherever it stands?
func speechless(t *testing.T, n node) {
	t.Helper()
	if s, e := canon.Expr(n); s != "" || e != api.ErrForm {
		t.Errorf("Expr(%.300s): %.300q, %d, want ErrForm", ofNode(n), s, e)
	}
	unmade(t, config(n))
	for y := range whole().Types {
		for k := range whole().Types[y].Rels {
			c := whole()
			c.Types[y].Rels[k].Expr = n
			unmade(t, c)
		}
	}
}

// whole is a well made configuration with some of everything.
func whole() api.Config {
	return api.Config{Types: []api.Type{
		{Name: "user"},
		{Name: "group", Rels: []api.Rel{
			{Name: "member", Allow: []api.Allow{{Type: "user"}, {Type: "group", Relation: "member"}}, Expr: this()},
		}},
		{Name: "doc", Rels: []api.Rel{
			{Name: "parent", Allow: []api.Allow{{Type: "doc"}}, Expr: this()},
			{Name: "banned", Allow: []api.Allow{{Type: "user", Wild: true}, {Type: "group", Relation: "member"}, {Type: "user"}}, Expr: this()},
			{Name: "viewer", Allow: []api.Allow{{Type: "user"}, {Type: "group", Relation: "member"}, {Type: "user", Wild: true}}, Expr: except(union(this(), arrow("parent", "viewer")), computed("banned"))},
			{Name: "editor", Expr: computed("viewer")},
		}},
	}}
}

const wholeText = `type user {
}
type group {
  rel member [user, group#member] = this;
}
type doc {
  rel parent [doc] = this;
  rel banned [user:*, group#member, user] = this;
  rel viewer [user, group#member, user:*] = (this | parent->viewer) - banned;
  rel editor = viewer;
}
`

func TestP8_1Example(t *testing.T) {
	says(t, meet(computed("a"), union(computed("b"), computed("c"))), "a & (b | c)")
}

func TestP8_1ExprsOfEachKind(t *testing.T) {
	a, b, c, d := computed("a"), computed("b"), computed("c"), computed("d")
	for want, n := range map[string]node{
		"this":                       this(),
		"a":                          a,
		"types":                      computed("types"),
		"abcdefghijklmnop":           computed("abcdefghijklmnop"),
		"a->b":                       arrow("a", "b"),
		"b->a":                       arrow("b", "a"),
		"a->a":                       arrow("a", "a"),
		"abcdefghijklmno0->z_123456": arrow("abcdefghijklmno0", "z_123456"),
		"a | b":                      union(a, b),
		"b | a":                      union(b, a),
		"a & b":                      meet(a, b),
		"b & a":                      meet(b, a),
		"a - b":                      except(a, b),
		"b - a":                      except(b, a),
		"a | a":                      union(a, a),
		"this | a | b->c":            union(this(), a, arrow("b", "c")),
		"b->c & this & a":            meet(arrow("b", "c"), this(), a),
		"this - this":                except(this(), this()),
		"a->b - b->a":                except(arrow("a", "b"), arrow("b", "a")),
		"a | b | c | d":              union(a, b, c, d),
		"a & b & c & d":              meet(a, b, c, d),
		// A Union's parts.
		"(a | b) | c":       union(union(a, b), c),
		"a | (b | c)":       union(a, union(b, c)),
		"a | (b | c) | d":   union(a, union(b, c), d),
		"(a | b) | (c | d)": union(union(a, b), union(c, d)),
		"a & b | c":         union(meet(a, b), c),
		"a | b & c":         union(a, meet(b, c)),
		"a - b | c":         union(except(a, b), c),
		"a | b - c":         union(a, except(b, c)),
		// A Meet's.
		"(a | b) & c":       meet(union(a, b), c),
		"a & (b | c)":       meet(a, union(b, c)),
		"(a & b) & c":       meet(meet(a, b), c),
		"a & (b & c)":       meet(a, meet(b, c)),
		"a & (b & c) & d":   meet(a, meet(b, c), d),
		"a - b & c":         meet(except(a, b), c),
		"a & b - c":         meet(a, except(b, c)),
		"(a | b) & (c & d)": meet(union(a, b), meet(c, d)),
		// An Except's.
		"(a | b) - c":       except(union(a, b), c),
		"a - (b | c)":       except(a, union(b, c)),
		"(a & b) - c":       except(meet(a, b), c),
		"a - (b & c)":       except(a, meet(b, c)),
		"(a - b) - c":       except(except(a, b), c),
		"a - (b - c)":       except(a, except(b, c)),
		"(a - b) - (c - d)": except(except(a, b), except(c, d)),
		"a->b - this":       except(arrow("a", "b"), this()),
		// Three within each other.
		"a | b & (c | d)":             union(a, meet(b, union(c, d))),
		"a & (b | c & d)":             meet(a, union(b, meet(c, d))),
		"a - (b - (c - d))":           except(a, except(b, except(c, d))),
		"((a - b) - c) - d":           except(except(except(a, b), c), d),
		"a & (b | c) - d | this":      union(meet(a, except(union(b, c), d)), this()),
		"(a | b & c - d) - a->b":      except(union(a, meet(b, except(c, d))), arrow("a", "b")),
		"a | (b | (c | d))":           union(a, union(b, union(c, d))),
		"((a & b) & c) & d":           meet(meet(meet(a, b), c), d),
		"(this | a->b) & (c - d) - a": meet(union(this(), arrow("a", "b")), except(except(c, d), a)),
	} {
		says(t, n, want)
	}
}

func TestP8_1ExprsAreTheWords(t *testing.T) {
	for _, n := range shapes(6) {
		if s, e := canon.Expr(n); s != modelExpr(n) || e != api.OK {
			t.Fatalf("Expr(%s): %q, %d, want %q", ofNode(n), s, e, modelExpr(n))
		}
	}
	lines(func(n node) {
		if s, e := canon.Expr(n); s != modelExpr(n) || e != api.OK {
			t.Fatalf("Expr(%s): %q, %d, want %q", ofNode(n), s, e, modelExpr(n))
		}
	})
	m := newMaker(8)
	for range 3000 {
		n := m.fitting()
		says(t, n, modelExpr(n))
	}
}

func TestP8_1ExprsLimits(t *testing.T) {
	if api.MaxNodes != 24 || api.MaxNest != 8 {
		t.Fatal("other limits")
	}
	says(t, wide(24), "this"+strings.Repeat(" | this", 22))
	says(t, chain(api.Union, 8), strings.Repeat("(", 6)+"this | a"+strings.Repeat(") | a", 6))
	for _, n := range []node{
		wide(23), chain(api.Meet, 8), chain(api.Except, 8), chain(api.Except, 7),
		union(chain(api.Meet, 7), chain(api.Except, 4), this(), this(), this()), // 24, and 8 deep
		union(this(), this(), chain(api.Meet, 7)),
	} {
		says(t, n, modelExpr(n))
	}
	for _, n := range []node{
		wide(25), wide(26), wide(1000),
		chain(api.Union, 9), chain(api.Meet, 9), chain(api.Except, 9), chain(api.Meet, 12),
		union(chain(api.Meet, 7), chain(api.Except, 4), this(), this(), this(), this()), // 25
		union(this(), this(), chain(api.Meet, 8)),                                       // 9 deep by a last part
		union(chain(api.Meet, 8), wide(8)),                                              // 24, but 9 deep
		chain(api.Union, 13), chain(api.Union, 1000),
		except(wide(12), wide(12)), // 25 in two parts
	} {
		speechless(t, n)
	}
	says(t, except(wide(12), wide(11)), modelExpr(except(wide(12), wide(11))))
}

// faults are nodes that aren't good.
func faults() []node {
	l := []node{
		{}, {Kind: -1}, {Kind: 7}, {Kind: math.MinInt}, {Kind: math.MaxInt}, {Kind: 1 << 32}, {Kind: 1<<32 + 1},
		{Kind: api.This, A: "a"}, {Kind: api.This, B: "a"}, {Kind: api.This, Kids: []node{this()}},
		{Kind: api.Computed, A: "a", B: "b"}, {Kind: api.Computed, B: "b"}, {Kind: api.Computed, A: "a", Kids: []node{this()}},
		{Kind: api.Arrow, A: "a", B: "b", Kids: []node{this(), this()}},
		union(), union(this()), meet(), meet(this()), except(), except(this()), except(this(), this(), this()),
	}
	for _, kind := range []int{api.Union, api.Meet, api.Except} {
		kids := []node{this(), computed("a")}
		l = append(l, node{Kind: kind, A: "a", Kids: kids}, node{Kind: kind, B: "a", Kids: kids})
	}
	for s, word := range words {
		if !word {
			l = append(l, computed(s), arrow(s, "a"), arrow("a", s), arrow(s, s))
		}
	}
	return l
}

func TestP8_1ExprsThatArentGood(t *testing.T) {
	for _, bad := range faults() {
		speechless(t, bad)
		for _, n := range []node{
			union(bad, this()), union(this(), bad), union(this(), bad, this()),
			meet(bad, this()), meet(this(), this(), bad), except(bad, this()), except(this(), bad),
			union(this(), meet(this(), except(this(), bad))),
		} {
			speechless(t, n)
		}
	}
}

func TestP8_1Print(t *testing.T) {
	prints(t, whole(), wholeText)
	prints(t, api.Config{}, "")
	prints(t, api.Config{Types: []api.Type{{Name: "user"}}}, "type user {\n}\n")
	prints(t, api.Config{Types: []api.Type{{Name: "b"}, {Name: "a"}}}, "type b {\n}\ntype a {\n}\n")
	one, set, all := api.Allow{Type: "a"}, api.Allow{Type: "b", Relation: "c"}, api.Allow{Type: "d", Wild: true}
	for want, l := range map[string][]api.Allow{
		"":                    {},
		"[a] ":                {one},
		"[b#c] ":              {set},
		"[d:*] ":              {all},
		"[a, b#c, d:*] ":      {one, set, all},
		"[d:*, b#c, a] ":      {all, set, one},
		"[a, a] ":             {one, one},
		"[a#a, a, a:*] ":      {{Type: "a", Relation: "a"}, {Type: "a"}, {Type: "a", Wild: true}},
		"[b#c, b#c, b, b:*] ": {set, set, {Type: "b"}, {Type: "b", Wild: true}},
	} {
		c := config(this())
		c.Types[0].Rels[0].Allow = l
		prints(t, c, "type t {\n  rel r "+want+"= this;\n}\n")
		c.Types[0].Rels = append(c.Types[0].Rels, api.Rel{Name: "q", Expr: computed("r")})
		prints(t, c, "type t {\n  rel r "+want+"= this;\n  rel q = r;\n}\n")
	}
	m := newMaker(81)
	for range 1000 {
		c := m.config()
		prints(t, c, modelConfig(c))
	}
}

// What means nothing, or is too much for other chapters, is well made.
func TestP8_1WhatIsNoMatterOfThisLayer(t *testing.T) {
	twice := config(computed("nowhere"))
	twice.Types[0].Rels = append(twice.Types[0].Rels, twice.Types[0].Rels[0])
	twice.Types = append(twice.Types, twice.Types[0])
	prints(t, twice, strings.Repeat("type t {\n  rel r = nowhere;\n  rel r = nowhere;\n}\n", 2))
	much := config(arrow("nowhere", "never"))
	much.Types[0].Rels[0].Allow = slices.Repeat([]api.Allow{{Type: "nobody", Relation: "never"}}, 3*api.MaxAllowed)
	much.Types[0].Rels = slices.Repeat(much.Types[0].Rels, 3*api.MaxRels)
	much.Types = slices.Repeat(much.Types, 3*api.MaxTypes)
	want := modelConfig(much)
	if utf8.RuneCountInString(want) <= api.MaxConfig {
		t.Fatal("too short")
	}
	prints(t, much, want)
}

// words are texts, with whether each is a word.
var words = map[string]bool{
	"a": true, "z9_": true, "types": true, "thi": true, "rela": true, "abcdefghijklmnop": true, "a_______________": true,
	"": false, "type": false, "rel": false, "this": false, "abcdefghijklmnopq": false,
	"A": false, "aB": false, "_a": false, "9": false, "a-b": false, "a b": false, " a": false, "a ": false, "a\n": false,
	"\u00e4": false, "a\u00e4": false, "a\xff": false, "\x00": false, "a\x00": false, "a#b": false, "a:*": false, "*": false, "(a)": false,
	"a, b": false, "a | b": false, "a->b": false, "a;": false, "// a": false,
}

// eachName tells see every name of whole, one at a time, in a configuration of
// which it is the only one that is another: what it is, and how to lay it.
func eachName(see func(place string, c api.Config, name *string)) {
	for y := range whole().Types {
		c := whole()
		see("type", c, &c.Types[y].Name)
		for k := range whole().Types[y].Rels {
			c := whole()
			see("rel", c, &c.Types[y].Rels[k].Name)
			for j := range whole().Types[y].Rels[k].Allow {
				c := whole()
				see("allowed type", c, &c.Types[y].Rels[k].Allow[j].Type)
				c = whole()
				a := &c.Types[y].Rels[k].Allow[j]
				if a.Wild {
					see("wild relation", c, &a.Relation)
				} else {
					see("allowed relation", c, &a.Relation)
				}
			}
		}
	}
}

func TestP8_1GoodByNames(t *testing.T) {
	for s, word := range words {
		eachName(func(place string, c api.Config, name *string) {
			*name = s
			good := word
			switch place {
			case "allowed relation":
				good = word || s == ""
			case "wild relation":
				good = s == ""
			}
			if good {
				prints(t, c, modelConfig(c))
			} else {
				unmade(t, c)
			}
		})
	}
	// Wild alone makes no Type a word.
	for s, word := range words {
		c := config(this())
		c.Types[0].Rels[0].Allow = []api.Allow{{Type: s, Wild: true}}
		if canon.Good(c) != word {
			t.Errorf("Good of allowed %q, Wild: %v", s, !word)
		}
	}
}
