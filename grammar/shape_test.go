package grammar_test

import (
	"math/rand"
	"strings"

	"stile/api"
)

func this() api.Node                   { return api.Node{Kind: api.This} }
func computed(a string) api.Node       { return api.Node{Kind: api.Computed, A: a} }
func arrow(a, b string) api.Node       { return api.Node{Kind: api.Arrow, A: a, B: b} }
func either(kids ...api.Node) api.Node { return api.Node{Kind: api.Union, Kids: kids} }
func both(kids ...api.Node) api.Node   { return api.Node{Kind: api.Meet, Kids: kids} }
func except(base, minus api.Node) api.Node {
	return api.Node{Kind: api.Except, Kids: []api.Node{base, minus}}
}

// config is one type, with one relation of the expression.
func config(n api.Node) api.Config {
	return api.Config{Types: []api.Type{{Name: "t", Rels: []api.Rel{{Name: "r", Expr: n}}}}}
}

// ofNode tells all that a node has, nil and empty lists alike.
func ofNode(n api.Node) string {
	s := string(rune('0'+n.Kind)) + "<" + n.A + "," + n.B
	for _, k := range n.Kids {
		s += " " + ofNode(k)
	}
	return s + ">"
}

// ofConfig tells all that a configuration has.
func ofConfig(c api.Config) string {
	var b strings.Builder
	for _, t := range c.Types {
		b.WriteString("type<" + t.Name + ">")
		for _, r := range t.Rels {
			b.WriteString("rel<" + r.Name + ">")
			for _, a := range r.Allow {
				b.WriteString("allow<" + a.Type + "," + a.Relation)
				if a.Wild {
					b.WriteString(",wild")
				}
				b.WriteString(">")
			}
			b.WriteString(ofNode(r.Expr))
		}
	}
	return b.String()
}

// ranks tell how tight kinds bind.
var ranks = map[int]int{api.This: 3, api.Computed: 3, api.Arrow: 3, api.Except: 2, api.Meet: 1, api.Union: 0}

// written is a text of a node: where brackets are needed, they stand, and
// where more says so; gap stands between tokens.
func written(n api.Node, gap func() string, more func() bool) string {
	part := func(k api.Node, rank int) string {
		s := written(k, gap, more)
		if ranks[k.Kind] < rank || more() {
			s = "(" + gap() + s + gap() + ")"
		}
		return s
	}
	rank := ranks[n.Kind] + 1
	switch n.Kind {
	case api.This:
		return "this"
	case api.Computed:
		return n.A
	case api.Arrow:
		return n.A + gap() + "->" + gap() + n.B
	}
	sign := map[int]string{api.Union: "|", api.Meet: "&", api.Except: "-"}[n.Kind]
	s := part(n.Kids[0], rank)
	for _, k := range n.Kids[1:] {
		s += gap() + sign + gap() + part(k, rank)
	}
	return s
}

// allowedText is a text of what a relation allows.
func allowedText(l []api.Allow, gap func() string) string {
	if len(l) == 0 {
		return ""
	}
	s := "["
	for k, a := range l {
		if k > 0 {
			s += gap() + ","
		}
		s += gap() + a.Type
		if a.Wild {
			s += gap() + ":" + gap() + "*"
		}
		if a.Relation != "" {
			s += gap() + "#" + gap() + a.Relation
		}
	}
	return s + gap() + "]"
}

// writtenConfig is a text of a configuration.
func writtenConfig(c api.Config, gap func() string, more func() bool) string {
	s := gap()
	for _, t := range c.Types {
		s += "type " + gap() + t.Name + gap() + "{" + gap()
		for _, r := range t.Rels {
			s += "rel " + gap() + r.Name + gap() + allowedText(r.Allow, gap) + gap() + "=" + gap() + written(r.Expr, gap, more) + gap() + ";" + gap()
		}
		s += "}" + gap()
	}
	return s
}

// bracketDepth is how many brackets of a text are open at most.
func bracketDepth(s string) int {
	open, most := 0, 0
	for _, r := range s {
		switch r {
		case '(':
			open++
		case ')':
			open--
		}
		most = max(most, open)
	}
	return most
}

func no() bool       { return false }
func yes() bool      { return true }
func nogap() string  { return "" }
func blank() string  { return " " }
func remark() string { return "\u3000// \u00e4->(\n\t" }

// shapes are all good nodes of at most so many nodes, of few names.
func shapes(size int) []api.Node {
	if size < 1 {
		return nil
	}
	all := []api.Node{this(), computed("a"), arrow("b", "c")}
	for kids := 2; kids < size; kids++ {
		rows(kids, size-1, func(row []api.Node) {
			all = append(all, either(row...), both(row...))
			if kids == 2 {
				all = append(all, except(row[0], row[1]))
			}
		})
	}
	return all
}

// rows goes through all rows of so many nodes, of at most size nodes in all.
func rows(kids, size int, visit func(row []api.Node)) {
	if kids == 0 {
		visit(nil)
		return
	}
	for _, n := range shapes(size - kids + 1) {
		rows(kids-1, size-nodes(n), func(row []api.Node) {
			visit(append([]api.Node{n}, row...))
		})
	}
}

// nodes is how many a node is.
func nodes(n api.Node) int {
	count := 1
	for _, k := range n.Kids {
		count += nodes(k)
	}
	return count
}

// A maker makes things by numbers that are the same each time.
type maker struct{ *rand.Rand }

func newMaker(seed int64) maker { return maker{rand.New(rand.NewSource(seed))} }

func (m maker) word() string {
	l := []string{"a", "viewer", "x_9", "abcdefghijklmnop", "types", "rel_", "this1", "thi"}
	return l[m.Intn(len(l))]
}

func (m maker) node(deep int) api.Node {
	kind := 1 + m.Intn(6)
	if deep == 0 {
		kind = 1 + m.Intn(3)
	}
	switch kind {
	case api.This:
		return this()
	case api.Computed:
		return computed(m.word())
	case api.Arrow:
		return arrow(m.word(), m.word())
	}
	n := api.Node{Kind: kind, Kids: []api.Node{m.node(deep - 1), m.node(deep - 1)}}
	for kind != api.Except && m.Intn(3) == 0 {
		n.Kids = append(n.Kids, m.node(deep-1))
	}
	return n
}

func (m maker) allow() api.Allow {
	a := api.Allow{Type: m.word()}
	switch m.Intn(3) {
	case 0:
		a.Relation = m.word()
	case 1:
		a.Wild = true
	}
	return a
}

func (m maker) config() api.Config {
	var c api.Config
	for range m.Intn(4) {
		t := api.Type{Name: m.word()}
		for range m.Intn(4) {
			r := api.Rel{Name: m.word(), Expr: m.node(m.Intn(3))}
			for range m.Intn(4) {
				r.Allow = append(r.Allow, m.allow())
			}
			t.Rels = append(t.Rels, r)
		}
		c.Types = append(c.Types, t)
	}
	return c
}

func (m maker) gap() string {
	l := []string{"", "", " ", "\n", "\t\r", "\u3000", "//\n", " // rel [ \u00e4 \n "}
	return l[m.Intn(len(l))]
}

func (m maker) seldom() bool { return m.Intn(6) == 0 }
