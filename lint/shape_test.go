package lint_test

import (
	"fmt"
	"math/rand"
	"slices"
	"strings"
	"testing"

	"stile/api"
	"stile/grammar"
	"stile/lint"
	"stile/tract"
)

type node = api.Node

func this() node              { return node{Kind: api.This} }
func computed(a string) node  { return node{Kind: api.Computed, A: a} }
func arrow(a, b string) node  { return node{Kind: api.Arrow, A: a, B: b} }
func union(kids ...node) node { return node{Kind: api.Union, Kids: kids} }
func meet(kids ...node) node  { return node{Kind: api.Meet, Kids: kids} }
func except(a, b node) node   { return node{Kind: api.Except, Kids: []node{a, b}} }

// ofNode tells all that a node has, nil and empty lists alike.
func ofNode(n node) string {
	s := fmt.Sprintf("%d<%q,%q", n.Kind, n.A, n.B)
	for _, k := range n.Kids {
		s += " " + ofNode(k)
	}
	return s + ">"
}

func ofRel(r api.Rel) string {
	s := fmt.Sprintf("%q[", r.Name)
	for _, a := range r.Allow {
		s += fmt.Sprintf(" %q#%q:%v", a.Type, a.Relation, a.Wild)
	}
	return s + "]" + ofNode(r.Expr)
}

func ofConfig(c api.Config) string {
	s := ""
	for _, t := range c.Types {
		s += fmt.Sprintf("%q{", t.Name)
		for _, r := range t.Rels {
			s += " " + ofRel(r)
		}
		s += "}\n"
	}
	return s
}

func parsed(t *testing.T, s string) api.Config {
	t.Helper()
	c, at, e := grammar.Parse(s)
	if e != api.OK {
		t.Fatalf("Parse(%q): %v, %d", s, at, e)
	}
	return c
}

// told is an answer of Check as a text: the items, or the error and its spot.
func told(items []lint.Item, at lint.Spot, e api.Errno) string {
	if e != api.OK {
		s := fmt.Sprintf("%d at %s#%s", e, at.Type, at.Relation)
		if len(items) > 0 {
			s += " beside items"
		}
		return s
	}
	s := ""
	for _, x := range items {
		s += fmt.Sprintf("%s#%s %d, ", x.Type, x.Relation, x.Stratum)
	}
	if at != (lint.Spot{}) {
		s += "beside a spot"
	}
	return strings.TrimSuffix(s, ", ")
}

func checked(c api.Config) string { return told(lint.Check(c)) }

// wrong is how told says an error.
func wrong(e api.Errno, typ, relation string) string {
	return fmt.Sprintf("%d at %s#%s", e, typ, relation)
}

// A maker makes things by numbers that are the same each time.
type maker struct{ *rand.Rand }

func newMaker(seed int64) maker { return maker{rand.New(rand.NewSource(seed))} }

func one[T any](m maker, l []T) T { return l[m.Intn(len(l))] }

// A draft is what is known of a configuration that is being made: its types,
// by their places the names of their relations, and which of these are plain
// and allow types alone: by Type#Relation, which types. Where it is falling,
// relations hang mostly on those behind them: few of these turn.
type draft struct {
	maker
	falling bool
	types   []string
	names   [][]string
	vias    [][]string
	to      map[string][]string
}

// faultless is a configuration without faults, but perhaps cycles.
func (m maker) faultless() api.Config {
	d := draft{maker: m, falling: m.Intn(2) == 0, to: map[string][]string{}}
	for k := range 1 + m.Intn(4) {
		var names []string
		for j := range m.Intn(7) {
			names = append(names, "pqrstuvw"[j:j+1])
		}
		d.types, d.names, d.vias = append(d.types, "abcdef"[k:k+1]), append(d.names, names), append(d.vias, nil)
	}
	plain := map[string]api.Rel{}
	for k, typ := range d.types {
		for _, name := range d.names[k] {
			if m.Intn(3) == 0 {
				r := d.plain(name)
				plain[typ+"#"+name] = r
				d.vias[k], d.to[typ+"#"+name] = append(d.vias[k], name), allowedTypes(r)
			}
		}
	}
	var c api.Config
	for k, typ := range d.types {
		t := api.Type{Name: typ}
		for j, name := range d.names[k] {
			r, ok := plain[typ+"#"+name]
			if !ok {
				r = d.rel(k, j)
			}
			t.Rels = append(t.Rels, r)
		}
		c.Types = append(c.Types, t)
	}
	return c
}

// plain is a relation by which an arrow may go.
func (d draft) plain(name string) api.Rel {
	r := api.Rel{Name: name, Expr: this()}
	for _, x := range d.types {
		if d.Intn(2) == 0 || len(r.Allow) == 0 {
			r.Allow = append(r.Allow, api.Allow{Type: x})
		}
	}
	return r
}

func allowedTypes(r api.Rel) []string {
	var l []string
	for _, a := range r.Allow {
		if !slices.Contains(l, a.Type) {
			l = append(l, a.Type)
		}
	}
	return l
}

// rel is the relation at k, j, of any good expression.
func (d draft) rel(k, j int) api.Rel {
	r := api.Rel{Name: d.names[k][j], Expr: d.expr(k, j, d.Intn(4))}
	for tract.Size(r.Expr) > api.MaxNodes {
		r.Expr = d.expr(k, j, 2)
	}
	for hasThis(r.Expr) && len(r.Allow) == 0 {
		for _, a := range d.kinds(k, j) {
			if d.Intn(5) == 0 && len(r.Allow) < api.MaxAllowed {
				r.Allow = append(r.Allow, a)
			}
		}
	}
	return r
}

// kinds are all kinds of subjects that the relation at k, j may allow, shuffled.
func (d draft) kinds(k, j int) []api.Allow {
	var l []api.Allow
	for y, t := range d.types {
		l = append(l, api.Allow{Type: t}, api.Allow{Type: t, Wild: true})
		for z, r := range d.names[y] {
			if !d.falling || y > k || y == k && z > j {
				l = append(l, api.Allow{Type: t, Relation: r})
			}
		}
	}
	d.Shuffle(len(l), func(i, j int) { l[i], l[j] = l[j], l[i] })
	return l
}

func hasThis(n node) bool {
	return n.Kind == api.This || slices.ContainsFunc(n.Kids, hasThis)
}

func (d draft) expr(k, j, deep int) node {
	names := d.names[k]
	if d.falling {
		names = names[j+1:]
	}
	switch kind := d.Intn(7); {
	case kind == 0 && deep > 0:
		return union(d.expr(k, j, deep-1), d.expr(k, j, deep-1), d.expr(k, j, deep-1))
	case kind == 1 && deep > 0:
		return meet(d.expr(k, j, deep-1), d.expr(k, j, deep-1))
	case kind == 2 && deep > 0:
		return except(d.expr(k, j, deep-1), d.expr(k, j, deep-1))
	case kind <= 4 && len(names) > 0:
		return computed(one(d.maker, names))
	case kind == 5 && len(d.vias[k]) > 0:
		via := one(d.maker, d.vias[k])
		if l := d.common(d.to[d.types[k]+"#"+via]); len(l) > 0 {
			return arrow(via, one(d.maker, l))
		}
	}
	return this()
}

// common are the relations that all of these types have.
func (d draft) common(types []string) []string {
	var l []string
	for _, name := range d.names[slices.Index(d.types, types[0])] {
		if !slices.ContainsFunc(types, func(t string) bool {
			return !slices.Contains(d.names[slices.Index(d.types, t)], name)
		}) {
			l = append(l, name)
		}
	}
	return l
}
