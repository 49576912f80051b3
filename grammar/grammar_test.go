package grammar_test

import (
	"slices"
	"strings"
	"testing"
	"unicode/utf8"

	"stile/api"
	"stile/grammar"
	"stile/sigil"
	"stile/tract"
)

func at(line, column int) sigil.Place { return sigil.Place{Line: line, Column: column} }

// wellRead: is what was read as P7.2 says?
func wellRead(t *testing.T, s string, c api.Config) {
	t.Helper()
	for _, y := range c.Types {
		for _, r := range y.Rels {
			if !tract.Word(y.Name) || !tract.Word(r.Name) || !tract.Good(r.Expr) {
				t.Fatalf("P7.2: %.80q: %s", s, ofConfig(c))
			}
			for _, a := range r.Allow {
				if !tract.Word(a.Type) || a.Relation != "" && (a.Wild || !tract.Word(a.Relation)) {
					t.Fatalf("P7.2: %.80q: %s", s, ofConfig(c))
				}
			}
		}
	}
}

// reads: does Expr answer this node, and Parse a configuration with it?
func reads(t *testing.T, s string, want api.Node) {
	t.Helper()
	n, p, e := grammar.Expr(s)
	if ofNode(n) != ofNode(want) || p != (sigil.Place{}) || e != api.OK {
		t.Fatalf("Expr(%.200q): %.300s, %v, %d, want %.300s", s, ofNode(n), p, e, ofNode(want))
	}
	parses(t, "type t { rel r = "+s+"\n; }", config(want))
}

// parses: does Parse answer this configuration?
func parses(t *testing.T, s string, want api.Config) {
	t.Helper()
	c, p, e := grammar.Parse(s)
	if ofConfig(c) != ofConfig(want) || p != (sigil.Place{}) || e != api.OK {
		t.Fatalf("Parse(%.200q): %.300s, %v, %d, want %.300s", s, ofConfig(c), p, e, ofConfig(want))
	}
	wellRead(t, s, c)
}

// refused: is a text that must be a whole part refused with this error, at
// this place, and with nothing beside?
func refused(t *testing.T, part, s string, want api.Errno, place sigil.Place) {
	t.Helper()
	got, p, e := asked(part, s)
	if got != nothing(part) || p != place || e != want {
		t.Errorf("%s of %.200q: %.200s, %v, %d, want %v, %d", part, s, got, p, e, place, want)
	}
}

func nothing(part string) string {
	if part == "CONFIG" {
		return ofConfig(api.Config{})
	}
	return ofNode(api.Node{})
}

// agrees: does the program answer the errors, and the places, of the model?
func agrees(t *testing.T, part, s string) {
	t.Helper()
	got, p, e := asked(part, s)
	wantP, wantE := model(part, s)
	if p != wantP || e != wantE {
		t.Fatalf("%s of %.300q: %v, %d, want %v, %d", part, s, p, e, wantP, wantE)
	}
	if e != api.OK && got != nothing(part) {
		t.Fatalf("R3: %s of %.300q: %s beside %d", part, s, got, e)
	}
}

func TestP7_1Examples(t *testing.T) {
	reads(t, "a | b & c - d", either(computed("a"), both(computed("b"), except(computed("c"), computed("d")))))
	refused(t, "UNION", "a - b - c", api.ErrSyntax, at(1, 7))
}

func TestP7_1EachFormOfAnExpression(t *testing.T) {
	a, b, c := computed("a"), computed("b"), computed("c")
	for s, want := range map[string]api.Node{
		"this":                   this(),
		"a":                      a,
		"abcdefghijklmnop":       computed("abcdefghijklmnop"),
		"types":                  computed("types"),
		"this_":                  computed("this_"),
		"a->b":                   arrow("a", "b"),
		"b -> a":                 arrow("b", "a"),
		"a->a":                   arrow("a", "a"),
		"a // b\n->\u3000// \nc": arrow("a", "c"),
		"a|b":                    either(a, b),
		"b|a":                    either(b, a),
		"a|a":                    either(a, a),
		"a|b|c":                  either(a, b, c),
		"a|b|c|this|a->b":        either(a, b, c, this(), arrow("a", "b")),
		"a&b":                    both(a, b),
		"a&b&c":                  both(a, b, c),
		"this&this&this&this":    both(this(), this(), this(), this()),
		"a-b":                    except(a, b),
		"b-a":                    except(b, a),
		"this-this":              except(this(), this()),
		"a->b-b->c":              except(arrow("a", "b"), arrow("b", "c")),
		"a-this":                 except(a, this()),
		"a-b->c":                 except(a, arrow("b", "c")),
		"a->b|c":                 either(arrow("a", "b"), c),
		"a->b&c":                 both(arrow("a", "b"), c),
		"a&b->c":                 both(a, arrow("b", "c")),
	} {
		reads(t, s, want)
		reads(t, "("+s+")", want)
		reads(t, "( (\n"+s+"\n) ) // )", want)
	}
}

var spaced = strings.NewReplacer("->", " ->\n", "-", "\u3000- ", "|", " |\t", "&", "\r& ", "(", "( ", ")", "//)\n) ")

func TestP7_1HowSignsBind(t *testing.T) {
	a, b, c, d := computed("a"), computed("b"), computed("c"), computed("d")
	for s, want := range map[string]api.Node{
		// Two signs beside one another.
		"a|b&c": either(a, both(b, c)),
		"a&b|c": either(both(a, b), c),
		"a|b-c": either(a, except(b, c)),
		"a-b|c": either(except(a, b), c),
		"a&b-c": both(a, except(b, c)),
		"a-b&c": both(except(a, b), c),
		// With brackets that the signs have anyhow.
		"a|(b&c)": either(a, both(b, c)),
		"(a&b)|c": either(both(a, b), c),
		"a|(b-c)": either(a, except(b, c)),
		"(a-b)|c": either(except(a, b), c),
		"a&(b-c)": both(a, except(b, c)),
		"(a-b)&c": both(except(a, b), c),
		// With others.
		"(a|b)&c": both(either(a, b), c),
		"a&(b|c)": both(a, either(b, c)),
		"(a|b)-c": except(either(a, b), c),
		"a-(b|c)": except(a, either(b, c)),
		"(a&b)-c": except(both(a, b), c),
		"a-(b&c)": except(a, both(b, c)),
		"(a-b)-c": except(except(a, b), c),
		"a-(b-c)": except(a, except(b, c)),
		// Brackets are not opened: their union is one part.
		"a|(b|c)":       either(a, either(b, c)),
		"(a|b)|c":       either(either(a, b), c),
		"a&(b&c)":       both(a, both(b, c)),
		"(a&b)&c":       both(both(a, b), c),
		"(a|b)|(c|d)":   either(either(a, b), either(c, d)),
		"a|((b|c))|d":   either(a, either(b, c), d),
		"(a)|(b)":       either(a, b),
		"((a)-(b))":     except(a, b),
		"(((a)))&(b|c)": both(a, either(b, c)),
		// Three and more.
		"a|b&c-d":          either(a, both(b, except(c, d))),
		"a-b&c|d":          either(both(except(a, b), c), d),
		"a-b|c-d":          either(except(a, b), except(c, d)),
		"a-b&c-d":          both(except(a, b), except(c, d)),
		"a&b|c&d":          either(both(a, b), both(c, d)),
		"a|b&c|d":          either(a, both(b, c), d),
		"a&b|c|d&a":        either(both(a, b), c, both(d, a)),
		"a&b-c&d":          both(a, except(b, c), d),
		"a|b-c|d":          either(a, except(b, c), d),
		"(a|b)&(c|d)":      both(either(a, b), either(c, d)),
		"(a|b)-(c|d)":      except(either(a, b), either(c, d)),
		"(a&b)-(c&d)|a":    either(except(both(a, b), both(c, d)), a),
		"a&(b|c&(d|this))": both(a, either(b, both(c, either(d, this())))),
		"a-(b-(c-d))":      except(a, except(b, except(c, d))),
		"((a-b)-c)-d":      except(except(except(a, b), c), d),
		"a->b|c->d&a-b->c": either(arrow("a", "b"), both(arrow("c", "d"), except(a, arrow("b", "c")))),
	} {
		reads(t, s, want)
		reads(t, spaced.Replace(s), want)
	}
}

// All small nodes, printed with just the brackets that they need, and with as
// many as there may be.
func TestP7_1WhatIsWrittenIsRead(t *testing.T) {
	for _, n := range shapes(6) {
		for _, s := range []string{written(n, nogap, no), written(n, blank, yes), written(n, remark, no)} {
			got, p, e := grammar.Expr(s)
			if ofNode(got) != ofNode(n) || p != (sigil.Place{}) || e != api.OK {
				t.Fatalf("Expr(%q): %s, %v, %d, want %s", s, ofNode(got), p, e, ofNode(n))
			}
			if !tract.Good(got) {
				t.Fatalf("P7.2: Expr(%q): %s", s, ofNode(got))
			}
		}
	}
	m := newMaker(7)
	for range 3000 {
		n := m.node(1 + m.Intn(4))
		s := written(n, m.gap, m.seldom)
		if bracketDepth(s) <= 8 && utf8.RuneCountInString(s) < 2900 {
			reads(t, s, n)
		}
	}
}

func TestP7_1Configurations(t *testing.T) {
	plain := func(name string, n api.Node) api.Rel { return api.Rel{Name: name, Expr: n} }
	user := api.Type{Name: "user"}
	for s, want := range map[string]api.Config{
		"type user {}":                        {Types: []api.Type{user}},
		"type\nuser\n{\n}\n":                  {Types: []api.Type{user}},
		"type user{}type doc{}":               {Types: []api.Type{user, {Name: "doc"}}},
		"type doc {} type user {}":            {Types: []api.Type{{Name: "doc"}, user}},
		"type a { rel b = c; }":               {Types: []api.Type{{Name: "a", Rels: []api.Rel{plain("b", computed("c"))}}}},
		"type a { rel b = this; rel c = b; }": {Types: []api.Type{{Name: "a", Rels: []api.Rel{plain("b", this()), plain("c", computed("b"))}}}},
		"type a{rel z=y->x;}type user{}type b{rel y=(x);rel x=a-b;rel w=a|b;}": {Types: []api.Type{
			{Name: "a", Rels: []api.Rel{plain("z", arrow("y", "x"))}}, user,
			{Name: "b", Rels: []api.Rel{plain("y", computed("x")), plain("x", except(computed("a"), computed("b"))), plain("w", either(computed("a"), computed("b")))}}}},
		// What means nothing is no matter of this layer.
		"type a {} type a {}":                  {Types: []api.Type{{Name: "a"}, {Name: "a"}}},
		"type a { rel a = a; rel a = a; }":     {Types: []api.Type{{Name: "a", Rels: []api.Rel{plain("a", computed("a")), plain("a", computed("a"))}}}},
		"// type user {}\ntype user { // }\n}": {Types: []api.Type{user}},
	} {
		parses(t, s, want)
		parses(t, "\u3000// \u00e4\n"+s+"\r// type", want)
	}
	parses(t, "type user {}\ntype group {\n  rel member [user, group#member] = this;\n}\ntype doc {\n  rel parent [doc] = this;\n  rel banned [user, user:*] = this;\n  rel viewer [user, group#member, user:*] = (this | parent->viewer) - banned;\n  rel editor = viewer;\n}\n", api.Config{Types: []api.Type{
		user,
		{Name: "group", Rels: []api.Rel{{Name: "member", Allow: []api.Allow{{Type: "user"}, {Type: "group", Relation: "member"}}, Expr: this()}}},
		{Name: "doc", Rels: []api.Rel{
			{Name: "parent", Allow: []api.Allow{{Type: "doc"}}, Expr: this()},
			{Name: "banned", Allow: []api.Allow{{Type: "user"}, {Type: "user", Wild: true}}, Expr: this()},
			{Name: "viewer", Allow: []api.Allow{{Type: "user"}, {Type: "group", Relation: "member"}, {Type: "user", Wild: true}}, Expr: except(either(this(), arrow("parent", "viewer")), computed("banned"))},
			{Name: "editor", Expr: computed("viewer")},
		}},
	}})
}

func TestP7_1WhatARelAllows(t *testing.T) {
	one, set, all := api.Allow{Type: "a"}, api.Allow{Type: "b", Relation: "c"}, api.Allow{Type: "d", Wild: true}
	for s, want := range map[string][]api.Allow{
		"":                               nil,
		"[a]":                            {one},
		"[b#c]":                          {set},
		"[d:*]":                          {all},
		"[a,b#c]":                        {one, set},
		"[b#c,a]":                        {set, one},
		"[b#c,d:*]":                      {set, all},
		"[d:*,b#c]":                      {all, set},
		"[d:*,a]":                        {all, one},
		"[a,b#c,d:*]":                    {one, set, all},
		"[a,a,a]":                        {one, one, one},
		"[d:*,d:*]":                      {all, all},
		"[a#a,a,a:*]":                    {{Type: "a", Relation: "a"}, one, {Type: "a", Wild: true}},
		"[\n\u3000b // c\n#\tc\r,d : *]": {set, all},
		// How many may be is no matter of this layer.
		"[" + strings.Repeat("a,", 40) + "b#c]": append(slices.Repeat([]api.Allow{one}, 40), set),
	} {
		c := config(this())
		c.Types[0].Rels[0].Allow = want
		parses(t, "type t{rel r"+s+"=this;}", c)
		// Of each relation its own.
		c.Types[0].Rels = append([]api.Rel{{Name: "q", Expr: computed("r")}}, c.Types[0].Rels[0], api.Rel{Name: "s", Allow: []api.Allow{all}, Expr: this()})
		parses(t, "type t { rel q = r; rel r "+s+" = this; rel s [d:*] = this; }", c)
	}
	for s, column := range map[string]int{"[]": 2, "[,a]": 2, "[a,]": 4, "[a,,a]": 4, "[a b]": 4, "[a": 4, "[a][a]": 4, "[[a]]": 2, "[a#]": 4, "[a#b#c]": 5, "[a:]": 4, "[a:b]": 4, "[a:*#b]": 5, "[a#*]": 4, "[a#b:*]": 5, "[*]": 2, "[#b]": 2, "[:*]": 2, "[a*]": 3, "[a::*]": 4, "[a:**]": 5, "[a|b]": 3, "[this]": 2, "[type]": 2, "[a#rel]": 4, "(a)": 1, "a": 1, "]": 1, "[(a)]": 2, "[a->b]": 3, "[a;]": 3, "[a:this]": 4} {
		refused(t, "CONFIG", "type t {\nrel r\n"+s+" = this; }", api.ErrSyntax, at(3, column))
	}
}

func TestP7_1Brackets(t *testing.T) {
	open := func(n int) string { return strings.Repeat("(", n) }
	shut := func(n int) string { return strings.Repeat(")", n) }
	a, b := computed("a"), computed("b")
	for n := range 9 {
		reads(t, open(n)+"a"+shut(n), a)
		reads(t, open(n)+"a|b"+shut(n), either(a, b))
		if n > 0 {
			reads(t, "b&"+open(n)+"a|b"+shut(n)+"-b", both(b, except(either(a, b), b)))
		}
	}
	// Those that are closed don't count, nor those of relations ahead.
	eight := open(8) + "a" + shut(8)
	reads(t, eight+"|"+eight+"|"+eight, either(a, a, a))
	reads(t, eight+"-"+eight+"&"+eight, both(except(a, a), a))
	reads(t, open(7)+"(a)|(b)"+shut(7), either(a, b))
	reads(t, open(6)+"((a)-(b))|((a))"+shut(6), either(except(a, b), a))
	c := config(a)
	c.Types[0].Rels = slices.Repeat(c.Types[0].Rels, 3)
	c.Types = slices.Repeat(c.Types, 3)
	parses(t, strings.Repeat("type t {"+strings.Repeat("rel r = "+eight+";", 3)+"}", 3), c)
	// One more.
	for s, column := range map[string]int{
		open(9):                         9,
		open(9) + "a" + shut(9):         9,
		open(2900):                      9,
		"a|" + open(10):                 11,
		"a&b->c-" + open(9):             16,
		open(4) + "a-" + open(5):        11,
		open(8) + "a-(b)" + shut(8):     11,
		open(8) + "this|(b)" + shut(8):  14,
		open(7) + "(a)|((b))" + shut(7): 13,
		eight + "|" + open(9):           27,
		eight + "|" + eight + "&" + open(9) + "a" + shut(9): 45,
		"(" + eight + ")":            9,
		open(8) + "a)|((a" + shut(9): 13,
	} {
		refused(t, "UNION", s, api.ErrDeep, at(1, column))
		refused(t, "CONFIG", "type t{\nrel r=\n"+s+";}", api.ErrDeep, at(3, column))
	}
	refused(t, "UNION", "((\n((\n((\n((\n (\n(", api.ErrDeep, at(5, 2))
	// Of one that is too deep and of what is wrong, the first is told.
	for s, wrong := range map[string]int{
		"a b " + open(9):        3,
		open(8) + ")" + open(9): 9,
		open(8) + "|" + "(":     9,
		"a|)" + open(9):         3,
		open(8) + "a b|(":       11,
		"type|" + open(9):       1,
		eight + ")|" + open(9):  18,
		eight + open(9):         18,
		// A ( that is wrong is no bracket's beginning, how deep it stands.
		open(8) + "a(":      10,
		open(8) + "a->(":    12,
		open(8) + "this(b)": 13,
		open(8) + "a)(":     11,
	} {
		refused(t, "UNION", s, api.ErrSyntax, at(1, wrong))
		refused(t, "CONFIG", "type t { rel r =\n"+s, api.ErrSyntax, at(2, wrong))
	}
	for _, s := range []string{open(9) + ")", open(9) + "a b", open(9) + "type", open(9) + "|", open(9) + "a", open(9) + open(9), open(9) + "a" + shut(10), open(8) + "( a-b-c"} {
		refused(t, "UNION", s, api.ErrDeep, at(1, 9))
	}
	refused(t, "CONFIG", "type t { rel r =\n"+open(9)+"a"+shut(9)+"; rel }", api.ErrDeep, at(2, 9))
	refused(t, "CONFIG", "type t { rel r [] =\n"+open(9)+"a"+shut(9)+";}", api.ErrSyntax, at(1, 17))
	// Fewer than the limit that aren't closed are just wrong.
	for n := range 8 {
		refused(t, "UNION", open(n+1)+"a"+shut(n), api.ErrSyntax, at(1, 2*n+3))
		refused(t, "UNION", open(n)+"a"+shut(n+1), api.ErrSyntax, at(1, 2*n+2))
		refused(t, "UNION", open(n+1)+shut(n+1), api.ErrSyntax, at(1, n+2))
		refused(t, "UNION", open(n+1), api.ErrSyntax, at(1, n+2))
	}
}

func TestP7_1WhatLexRefuses(t *testing.T) {
	zero := sigil.Place{}
	full := strings.Repeat("\u3000", 3000)
	for _, part := range []string{"CONFIG", "UNION"} {
		for s, e := range map[string]api.Errno{
			"\xff": api.ErrText, "a\xff": api.ErrText, "type a {}\xff": api.ErrText, "// \xc3": api.ErrText, "\xe3\x80": api.ErrText, "a - b - c \x80": api.ErrText, "A\xff": api.ErrText, full + "\xff": api.ErrText,
			full + "a": api.ErrFull, full + "A": api.ErrFull, "a - b - c" + full: api.ErrFull, strings.Repeat("(", 3001): api.ErrFull, "type a {}" + full: api.ErrFull, strings.Repeat("\n", 3001): api.ErrFull,
		} {
			refused(t, part, s, e, zero)
		}
		for s, p := range map[string]sigil.Place{
			"A": at(1, 1), "type A": at(1, 6), "a A": at(1, 3), "\n\n \u00e4": at(3, 2), "type a {\n/}": at(2, 1), "a - b - c > d": at(1, 11), "type a {} 1": at(1, 11), "} _": at(1, 3), "a abcdefghijklmnopq": at(1, 3),
			strings.Repeat("(", 9) + "@": at(1, 10), "type a {}\n// \u00e4\n\"": at(3, 1), "a->>b": at(1, 4), strings.Repeat(" ", 2999) + "/": at(1, 3000), "\u3000\u00a0": at(1, 2),
		} {
			refused(t, part, s, api.ErrLex, p)
		}
	}
	// Of as many runes as may be.
	long := "this" + strings.Repeat("|a", 1498)
	kids := append([]api.Node{this()}, slices.Repeat([]api.Node{computed("a")}, 1498)...)
	if n, p, e := grammar.Expr(long); ofNode(n) != ofNode(either(kids...)) || p != zero || e != api.OK {
		t.Errorf("Expr of 3000 runes: %v, %d", p, e)
	}
	refused(t, "UNION", long+" ", api.ErrFull, zero)
	c := api.Config{Types: slices.Repeat([]api.Type{{Name: "a"}}, 375)}
	parses(t, strings.Repeat("type a{}", 375), c)
	refused(t, "CONFIG", strings.Repeat("type a{}", 375)+"}", api.ErrFull, zero)
	refused(t, "CONFIG", strings.Repeat("type a{}", 374)+"type ab{", api.ErrSyntax, at(1, 3001))
	refused(t, "UNION", strings.Repeat("a\n", 1500), api.ErrSyntax, at(2, 1))
}

func TestP7_1EmptyTexts(t *testing.T) {
	for s, end := range map[string]sigil.Place{"": at(1, 1), " ": at(1, 2), "\n": at(2, 1), "// this": at(1, 8), "//\n\u3000//a\n ": at(3, 2), strings.Repeat("\u3000", 3000): at(1, 3001)} {
		parses(t, s, api.Config{})
		refused(t, "UNION", s, api.ErrSyntax, end)
	}
}

// Chapter 5's limits aren't those of this layer, nor chapter 9's.
func TestP7_1GreatAndDeep(t *testing.T) {
	a := computed("a")
	for _, n := range []int{23, 24, 25, 26, 100, 500} {
		kids := slices.Repeat([]api.Node{a}, n)
		reads(t, "a"+strings.Repeat("|a", n-1), either(kids...))
		reads(t, "a"+strings.Repeat(" & a", n-1), both(kids...))
		reads(t, "a - (a"+strings.Repeat("&a", n-1)+")", except(a, both(kids...)))
	}
	// Each bracket may hold a union of a meet of a less.
	deep, s := a, "a"
	for n := range 9 {
		deep = either(both(except(deep, a), a), a)
		s += "-a&a|a"
		if n < 8 {
			reads(t, s, deep)
			s = "(" + s + ")"
		}
	}
	if tract.Depth(deep) != 28 || tract.Size(deep) <= 24 {
		t.Fatalf("a depth of %d", tract.Depth(deep))
	}
	reads(t, s, deep)
	refused(t, "UNION", "("+s+")", api.ErrDeep, at(1, 9))
	var c api.Config
	text := ""
	for range 9 {
		y := api.Type{Name: "t"}
		text += "type t {"
		for range 12 {
			y.Rels = append(y.Rels, api.Rel{Name: "r", Allow: slices.Repeat([]api.Allow{{Type: "t"}}, 2), Expr: a})
			text += "rel r [t,t] = a;"
		}
		c.Types = append(c.Types, y)
		text += "}"
	}
	parses(t, text, c)
}

func TestP7_2WhatIsReadIsGood(t *testing.T) {
	m := newMaker(41)
	texts := append([]string{"type t { rel r = (a) | ((b)); }", "type t { rel r [a, b#c, d:*] = " + strings.Repeat("(a - this | ", 8) + "a" + strings.Repeat(")", 8) + "; }", "type t { rel r = a" + strings.Repeat("&a", 99) + "; }"}, wholes["CONFIG"]...)
	for range 500 {
		texts = append(texts, writtenConfig(m.config(), m.gap, m.seldom))
	}
	for _, s := range texts {
		if c, _, e := grammar.Parse(s); e == api.OK {
			wellRead(t, s, c)
		} else if _, want := model("CONFIG", s); e != want {
			t.Errorf("Parse(%.80q): %d", s, e)
		}
	}
	for _, s := range wholes["UNION"] {
		if n, _, e := grammar.Expr(s); !tract.Good(n) || e != api.OK {
			t.Errorf("P7.2: Expr(%q): %s, %d", s, ofNode(n), e)
		}
	}
	// type, rel and this are no words, wherever a word must stand.
	for _, x := range []string{"type", "rel", "this"} {
		for _, s := range []string{"type @ {}", "type t { rel @ = a; }", "type t { rel r [@] = this; }", "type t { rel r [a#@] = this; }", "type t { rel r [a, @:*] = this; }", "type t { rel r = a->@; }", "type t { rel r = @->a; }", "type t { rel r = a-b->@; }"} {
			column := strings.Index(s, "@") + 1
			if x == "this" && strings.Contains(s, "@->") {
				column += 4
			}
			refused(t, "CONFIG", strings.Replace(s, "@", x, 1), api.ErrSyntax, at(1, column))
			parsed(t, strings.Replace(s, "@", x+"_", 1))
		}
	}
}

func parsed(t *testing.T, s string) {
	t.Helper()
	c, _, e := grammar.Parse(s)
	if e != api.OK {
		t.Errorf("Parse(%q): %d", s, e)
	}
	wellRead(t, s, c)
}
