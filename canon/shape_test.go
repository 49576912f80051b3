package canon_test

import (
	"fmt"
	"math/rand"
	"slices"
	"strings"

	"stile/api"
)

type node = api.Node

func this() node              { return node{Kind: api.This} }
func computed(a string) node  { return node{Kind: api.Computed, A: a} }
func arrow(a, b string) node  { return node{Kind: api.Arrow, A: a, B: b} }
func union(kids ...node) node { return node{Kind: api.Union, Kids: kids} }
func meet(kids ...node) node  { return node{Kind: api.Meet, Kids: kids} }
func except(kids ...node) node {
	return node{Kind: api.Except, Kids: kids}
}

// config is one type, with one relation of the expression.
func config(n node) api.Config {
	return api.Config{Types: []api.Type{{Name: "t", Rels: []api.Rel{{Name: "r", Expr: n}}}}}
}

// wide is a Union of this size: of it and its Kids.
func wide(size int) node {
	n := union()
	for range size - 1 {
		n.Kids = append(n.Kids, this())
	}
	return n
}

// chain is of this depth, and has two nodes more for each that it is deeper.
func chain(kind, depth int) node {
	n := this()
	for range depth - 1 {
		n = node{Kind: kind, Kids: []node{n, computed("a")}}
	}
	return n
}

// ofNode tells all that a node has, nil and empty lists alike.
func ofNode(n node) string {
	s := fmt.Sprintf("%d<%q,%q", n.Kind, n.A, n.B)
	for _, k := range n.Kids {
		s += " " + ofNode(k)
	}
	return s + ">"
}

// ofConfig tells all that a configuration has.
func ofConfig(c api.Config) string {
	var b strings.Builder
	for _, t := range c.Types {
		fmt.Fprintf(&b, "type<%q>", t.Name)
		for _, r := range t.Rels {
			fmt.Fprintf(&b, "rel<%q>", r.Name)
			for _, a := range r.Allow {
				fmt.Fprintf(&b, "allow<%q,%q,%v>", a.Type, a.Relation, a.Wild)
			}
			b.WriteString(ofNode(r.Expr))
		}
	}
	return b.String()
}

// bracketed tells which parts stand within brackets, as the chapter does.
var bracketed = map[int][]int{
	api.Union:  {api.Union},
	api.Meet:   {api.Union, api.Meet},
	api.Except: {api.Union, api.Meet, api.Except},
}

// modelExpr is the text that a good node is to have.
func modelExpr(n node) string {
	switch n.Kind {
	case api.This:
		return "this"
	case api.Computed:
		return n.A
	case api.Arrow:
		return n.A + "->" + n.B
	}
	s := ""
	for k, kid := range n.Kids {
		if k > 0 {
			s += " " + map[int]string{api.Union: "|", api.Meet: "&", api.Except: "-"}[n.Kind] + " "
		}
		if slices.Contains(bracketed[n.Kind], kid.Kind) {
			s += "(" + modelExpr(kid) + ")"
		} else {
			s += modelExpr(kid)
		}
	}
	return s
}

// modelConfig is the text that a well made configuration is to have.
func modelConfig(c api.Config) string {
	var b strings.Builder
	for _, t := range c.Types {
		fmt.Fprintf(&b, "type %s {\n", t.Name)
		for _, r := range t.Rels {
			fmt.Fprintf(&b, "  rel %s ", r.Name)
			for k, a := range r.Allow {
				b.WriteString(map[bool]string{true: "[", false: ", "}[k == 0] + a.Type)
				if a.Relation != "" {
					b.WriteString("#" + a.Relation)
				}
				if a.Wild {
					b.WriteString(":*")
				}
			}
			if len(r.Allow) > 0 {
				b.WriteString("] ")
			}
			fmt.Fprintf(&b, "= %s;\n", modelExpr(r.Expr))
		}
		b.WriteString("}\n")
	}
	return b.String()
}

// shapes are all good nodes of at most so many nodes, of few names.
func shapes(size int) []node {
	if size < 1 {
		return nil
	}
	all := []node{this(), computed("a"), arrow("b", "c")}
	for kids := 2; kids < size; kids++ {
		rows(kids, size-1, func(row []node) {
			all = append(all, union(row...), meet(row...))
			if kids == 2 {
				all = append(all, except(row...))
			}
		})
	}
	return all
}

// rows goes through all rows of so many nodes, of at most size nodes in all.
func rows(kids, size int, visit func(row []node)) {
	if kids == 0 {
		visit(nil)
		return
	}
	for _, n := range shapes(size - kids + 1) {
		rows(kids-1, size-nodes(n), func(row []node) {
			visit(append([]node{n}, row...))
		})
	}
}

func nodes(n node) int {
	count := 1
	for _, k := range n.Kids {
		count += nodes(k)
	}
	return count
}

func depth(n node) int {
	most := 0
	for _, k := range n.Kids {
		most = max(most, depth(k))
	}
	return most + 1
}

// lines are nodes of depth 8, of all rows of kinds that may stand within each
// other there, by first parts or by last ones.
func lines(visit func(n node)) {
	kinds := []int{api.Union, api.Meet, api.Except}
	var grow func(n node, left bool)
	grow = func(n node, left bool) {
		if depth(n) == api.MaxNest {
			visit(n)
			return
		}
		for _, kind := range kinds {
			kids := []node{computed("a"), n}
			if left {
				kids = []node{n, arrow("b", "c")}
			}
			grow(node{Kind: kind, Kids: kids}, left)
		}
	}
	grow(this(), true)
	grow(computed("b"), false)
}

// A maker makes things by numbers that are the same each time.
type maker struct{ *rand.Rand }

func newMaker(seed int64) maker { return maker{rand.New(rand.NewSource(seed))} }

func (m maker) word() string {
	l := []string{"a", "viewer", "x_9", "abcdefghijklmnop", "types", "rel_", "this1", "thi"}
	return l[m.Intn(len(l))]
}

// node is a good one; it may be too great or too deep.
func (m maker) node(deep int) node {
	kind := 1 + m.Intn(6)
	if deep == 0 {
		kind = 1 + m.Intn(3)
	}
	switch kind {
	case api.This:
		return this()
	case api.Computed:
		return computed(m.word())
	case api.Arrow:
		return arrow(m.word(), m.word())
	}
	n := node{Kind: kind, Kids: []node{m.node(deep - 1), m.node(deep - 1)}}
	for kind != api.Except && m.Intn(3) == 0 {
		n.Kids = append(n.Kids, m.node(deep-1))
	}
	return n
}

// fitting is a node that is neither too great nor too deep.
func (m maker) fitting() node {
	for {
		if n := m.node(m.Intn(api.MaxNest)); nodes(n) <= api.MaxNodes && depth(n) <= api.MaxNest {
			return n
		}
	}
}

func (m maker) allow() api.Allow {
	a := api.Allow{Type: m.word()}
	switch m.Intn(3) {
	case 0:
		a.Relation = m.word()
	case 1:
		a.Wild = true
	}
	return a
}

// config is a well made one.
func (m maker) config() api.Config {
	var c api.Config
	for range m.Intn(5) {
		t := api.Type{Name: m.word()}
		for range m.Intn(5) {
			r := api.Rel{Name: m.word(), Expr: m.fitting()}
			for range m.Intn(5) {
				r.Allow = append(r.Allow, m.allow())
			}
			t.Rels = append(t.Rels, r)
		}
		c.Types = append(c.Types, t)
	}
	return c
}

// copied is a configuration whose lists, but Kids, are its own.
func copied(c api.Config) api.Config {
	c.Types = slices.Clone(c.Types)
	for k := range c.Types {
		rels := slices.Clone(c.Types[k].Rels)
		for j := range rels {
			rels[j].Allow = slices.Clone(rels[j].Allow)
		}
		c.Types[k].Rels = rels
	}
	return c
}
