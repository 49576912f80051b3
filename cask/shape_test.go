package cask_test

import (
	"math/rand"
	"strconv"
	"strings"

	"stile/api"
)

type node = api.Node

func this() node              { return node{Kind: api.This} }
func computed(a string) node  { return node{Kind: api.Computed, A: a} }
func arrow(a, b string) node  { return node{Kind: api.Arrow, A: a, B: b} }
func union(kids ...node) node { return node{Kind: api.Union, Kids: kids} }
func meet(kids ...node) node  { return node{Kind: api.Meet, Kids: kids} }
func except(kids ...node) node {
	return node{Kind: api.Except, Kids: kids}
}

// config has one type, with one relation of the expression.
func config(n node) api.Config {
	return api.Config{Types: []api.Type{{Name: "t", Rels: []api.Rel{{Name: "r", Expr: n}}}}}
}

// wide is a Union of this size, itself counted.
func wide(size int) node {
	n := union()
	for range size - 1 {
		n.Kids = append(n.Kids, this())
	}
	return n
}

// chain is of this depth, and has two nodes more for each that it is deeper.
func chain(kind, depth int) node {
	n := this()
	for range depth - 1 {
		n = node{Kind: kind, Kids: []node{n, computed("a")}}
	}
	return n
}

// whole is a well made configuration with some of everything.
func whole() api.Config {
	return api.Config{Types: []api.Type{
		{Name: "u"},
		{Name: "doc", Rels: []api.Rel{
			{Name: "p", Allow: []api.Allow{{Type: "doc"}}, Expr: this()},
			{Name: "viewer", Allow: []api.Allow{{Type: "u"}, {Type: "doc", Relation: "viewer"}, {Type: "u", Wild: true}}, Expr: except(union(this(), arrow("p", "viewer")), meet(computed("p"), computed("bad"), this()))},
			{Name: "bad", Expr: computed("p")},
		}},
	}}
}

const wholeBytes = "2;1;u,0;3;doc,3;" +
	"1;p,1;3;doc,0;,-1;0;,0;,0;" +
	"6;viewer,3;1;u,0;,-3;doc,6;viewer,-1;u,0;,+6;0;,0;,2;4;0;,0;,2;1;0;,0;,0;3;1;p,6;viewer,0;5;0;,0;,3;2;1;p,0;,0;2;3;bad,0;,0;1;0;,0;,0;" +
	"3;bad,0;2;1;p,0;,0;"

// ofConfig: the bytes that a configuration is to have, by the chapter's words,
// good or not: they tell it from each other one.
func ofConfig(c api.Config) string { return ofList(c.Types, ofType) }

func ofType(t api.Type) string { return ofText(t.Name) + ofList(t.Rels, ofRel) }

func ofRel(r api.Rel) string {
	return ofText(r.Name) + ofList(r.Allow, ofAllow) + ofNode(r.Expr)
}

func ofAllow(a api.Allow) string {
	mark := map[bool]string{true: "+", false: "-"}
	return ofText(a.Type) + ofText(a.Relation) + mark[a.Wild]
}

func ofNode(n node) string {
	return strconv.Itoa(n.Kind) + ";" + ofText(n.A) + ofText(n.B) + ofList(n.Kids, ofNode)
}

func ofText(s string) string { return strconv.Itoa(len(s)) + ";" + s + "," }

func ofList[T any](l []T, of func(x T) string) string {
	var b strings.Builder
	b.WriteString(strconv.Itoa(len(l)) + ";")
	for _, x := range l {
		b.WriteString(of(x))
	}
	return b.String()
}

// good are well made configurations of many shapes, each another one.
func good() []api.Config {
	l := []api.Config{
		{}, {Types: []api.Type{{Name: "a"}}}, {Types: []api.Type{{Name: "a"}, {Name: "a"}}}, whole(),
		config(wide(24)), config(union(chain(api.Meet, 7), chain(api.Except, 4), this(), this(), this())),
		// What isn't sound may be well made.
		{Types: []api.Type{{Name: "a"}, {Name: "b"}, {Name: "c"}, {Name: "d"}, {Name: "e"}, {Name: "f"}, {Name: "g"}}},
		{Types: []api.Type{{Name: "a", Rels: make([]api.Rel, 30)}}},
		{Types: []api.Type{{Name: "a", Rels: []api.Rel{{Name: "r", Allow: make([]api.Allow, 30), Expr: computed("none")}}}}},
	}
	for k := range l[7].Types[0].Rels {
		l[7].Types[0].Rels[k] = api.Rel{Name: "r", Expr: except(this(), computed("r"))}
	}
	for k := range l[8].Types[0].Rels[0].Allow {
		l[8].Types[0].Rels[0].Allow[k].Type = "b"
	}
	for _, kind := range []int{api.Union, api.Meet, api.Except} {
		for depth := 2; depth <= api.MaxNest; depth++ {
			l = append(l, config(chain(kind, depth)))
		}
	}
	for _, n := range []node{this(), computed("a"), computed("abcdefghijklmnop"), arrow("a", "b"), arrow("b", "a"), union(this(), this(), computed("b")), meet(arrow("a", "a"), this())} {
		l = append(l, config(n))
	}
	return l
}

// badWords are no words.
var badWords = []string{"type", "rel", "this", "A", "aB", "9a", "_a", "a b", "a-b", "a\x00", "\xff", "\u00e4", "abcdefghijklmnopq", "a,", ";", "*"}

// badNodes are not those of a well made configuration.
func badNodes() []node {
	a := computed("a")
	l := []node{
		{}, {Kind: -1}, {Kind: 7}, {Kind: 10, A: "a"}, {A: "a"}, {Kind: 1 << 60},
		{Kind: api.This, A: "a"}, {Kind: api.This, B: "a"}, {Kind: api.This, Kids: []node{a}}, {Kind: api.This, Kids: []node{a, a}},
		{Kind: api.Computed}, {Kind: api.Computed, A: "a", B: "b"}, {Kind: api.Computed, B: "b"}, {Kind: api.Computed, A: "a", Kids: []node{a}},
		{Kind: api.Arrow}, {Kind: api.Arrow, A: "a"}, {Kind: api.Arrow, B: "a"}, {Kind: api.Arrow, A: "a", B: "b", Kids: []node{a, a}},
		union(), union(a), meet(), meet(a), except(), except(a), except(a, a, a),
		wide(25), wide(26), wide(300), chain(api.Union, 9), chain(api.Meet, 9), chain(api.Except, 9), chain(api.Union, 200),
		union(chain(api.Meet, 7), chain(api.Except, 4), this(), this(), this(), this()), // 25
		union(this(), chain(api.Meet, 8)), meet(wide(12), wide(12)),
	}
	for _, kind := range []int{api.Union, api.Meet, api.Except} {
		l = append(l, node{Kind: kind, A: "a", Kids: []node{a, a}}, node{Kind: kind, B: "a", Kids: []node{a, a}})
	}
	for _, s := range badWords {
		l = append(l, computed(s), arrow(s, "a"), arrow("a", s))
	}
	for _, n := range l {
		l = append(l, except(a, n), union(n, a, a))
	}
	return l
}

// bad are configurations that aren't well made.
func bad() []api.Config {
	var l []api.Config
	for _, s := range append([]string{""}, badWords...) {
		eachName(func(c api.Config, name *string, may bool) {
			if *name = s; s != "" || !may {
				l = append(l, c)
			}
		})
	}
	for _, n := range badNodes() {
		c := whole()
		c.Types[1].Rels[2].Expr = n
		l = append(l, c, config(n))
	}
	c := whole()
	c.Types[1].Rels[1].Allow[1].Wild = true
	return append(l, c)
}

// eachName shows visit a well made configuration, and a name of it, for each
// name that it has, and whether that may be empty.
func eachName(visit func(c api.Config, name *string, may bool)) {
	for _, at := range []func(c api.Config) (*string, bool){
		func(c api.Config) (*string, bool) { return &c.Types[0].Name, false },
		func(c api.Config) (*string, bool) { return &c.Types[1].Name, false },
		func(c api.Config) (*string, bool) { return &c.Types[1].Rels[0].Name, false },
		func(c api.Config) (*string, bool) { return &c.Types[1].Rels[2].Name, false },
		func(c api.Config) (*string, bool) { return &c.Types[1].Rels[1].Allow[0].Type, false },
		func(c api.Config) (*string, bool) { return &c.Types[1].Rels[1].Allow[1].Type, false },
		func(c api.Config) (*string, bool) { return &c.Types[1].Rels[1].Allow[1].Relation, true },
		func(c api.Config) (*string, bool) { return &c.Types[1].Rels[1].Allow[2].Type, false },
		func(c api.Config) (*string, bool) { return &c.Types[1].Rels[2].Expr.A, false },
	} {
		c := whole()
		name, may := at(c)
		visit(c, name, may)
	}
}

// A maker makes things by numbers that are the same each time.
type maker struct{ *rand.Rand }

func newMaker(seed int64) maker { return maker{rand.New(rand.NewSource(seed))} }

func (m maker) word() string {
	l := []string{"a", "b", "viewer", "x_9", "abcdefghijklmnop", "types", "this1"}
	return l[m.Intn(len(l))]
}

// node is a good one, of at most so many nodes, at most so deep.
func (m maker) node(size, depth int) node {
	kind := 1 + m.Intn(6)
	if depth == 1 || size < 3 {
		kind = 1 + m.Intn(3)
	}
	switch kind {
	case api.This:
		return this()
	case api.Computed:
		return computed(m.word())
	case api.Arrow:
		return arrow(m.word(), m.word())
	}
	kids := 2
	if kind != api.Except {
		kids += m.Intn(min(size, 6) - 2)
	}
	n := node{Kind: kind}
	for range kids {
		n.Kids = append(n.Kids, m.node((size-1)/kids, depth-1))
	}
	return n
}

func (m maker) allow() api.Allow {
	a := api.Allow{Type: m.word()}
	switch m.Intn(3) {
	case 0:
		a.Relation = m.word()
	case 1:
		a.Wild = true
	}
	return a
}

// config is a well made one.
func (m maker) config() api.Config {
	var c api.Config
	for range m.Intn(5) {
		t := api.Type{Name: m.word()}
		for range m.Intn(5) {
			r := api.Rel{Name: m.word(), Expr: m.node(api.MaxNodes, api.MaxNest)}
			for range m.Intn(5) {
				r.Allow = append(r.Allow, m.allow())
			}
			t.Rels = append(t.Rels, r)
		}
		c.Types = append(c.Types, t)
	}
	return c
}
