package lot_test

import (
	"fmt"
	"runtime/debug"
	"slices"
	"strings"
	"testing"
	"unsafe"

	"stile/api"
	"stile/lot"
)

type node = api.Node

// An own is the bytes of texts that the test may change.
type own [][]byte

func (o *own) text(s string) string {
	if s == "" {
		return ""
	}
	raw := []byte(s)
	*o = append(*o, raw)
	return unsafe.String(&raw[0], len(raw))
}

// spoil changes all texts.
func (o own) spoil() {
	for _, raw := range o {
		for k := range raw {
			raw[k] = '!'
		}
	}
}

// roomy is a list like l with marks as spare room.
func roomy[T any](l []T, mark T, copied func(x T) T) []T {
	var whole []T
	for _, x := range l {
		whole = append(whole, copied(x))
	}
	whole = append(whole, mark, mark)
	return whole[:len(l):len(whole)]
}

func (o *own) node(n node) node {
	n.A, n.B = o.text(n.A), o.text(n.B)
	n.Kids = roomy(n.Kids, node{Kind: 99, A: "mark"}, o.node)
	return n
}

func (o *own) allow(a api.Allow) api.Allow {
	a.Type, a.Relation = o.text(a.Type), o.text(a.Relation)
	return a
}

// The marks would let more tuples be.
func (o *own) rel(r api.Rel) api.Rel {
	r.Name, r.Expr = o.text(r.Name), o.node(r.Expr)
	r.Allow = roomy(r.Allow, api.Allow{Type: "a"}, o.allow)
	return r
}

func (o *own) kind(t api.Type) api.Type {
	t.Name = o.text(t.Name)
	t.Rels = roomy(t.Rels, api.Rel{Name: "none", Allow: []api.Allow{{Type: "a"}}}, o.rel)
	return t
}

func (o *own) config(c api.Config) api.Config {
	c.Types = roomy(c.Types, api.Type{Name: "none", Rels: []api.Rel{{Name: "a", Allow: []api.Allow{{Type: "a"}}}}}, o.kind)
	return c
}

func (o *own) tuple(x api.Tuple) api.Tuple {
	return tuple(o.text(x.Type), o.text(x.Id), o.text(x.Relation), o.text(x.Subject.Type), o.text(x.Subject.Id), o.text(x.Subject.Relation))
}

func (o *own) tuples(l []api.Tuple) []api.Tuple { return roomy(l, api.Tuple{Type: "mark"}, o.tuple) }

func ofNode(n node) string {
	s := fmt.Sprintf("%d<%q,%q", n.Kind, n.A, n.B)
	for _, k := range n.Kids[:cap(n.Kids)] {
		s += " " + ofNode(k)
	}
	return s + ">"
}

// whole tells all that a configuration and a list have, spare room too.
func whole(c api.Config, l []api.Tuple) string {
	s := fmt.Sprintf("%q\n", l[:cap(l)])
	for _, t := range c.Types[:cap(c.Types)] {
		s += fmt.Sprintf("%q{", t.Name)
		for _, r := range t.Rels[:cap(t.Rels)] {
			s += fmt.Sprintf("%q %v %s", r.Name, r.Allow[:cap(r.Allow)], ofNode(r.Expr))
		}
		s += "}\n"
	}
	return s
}

// answers are those of all calls, of each tuple of a list.
func answers(c api.Config, l []api.Tuple) string {
	s := fmt.Sprint(lot.Unfit(c, l))
	for _, x := range l {
		s += fmt.Sprint(" ", lot.Fit(c, x), lot.Known(c, api.Object{Type: x.Type, Id: x.Id}, x.Relation, x.Subject), lot.Direct(c, x.Type, x.Relation))
	}
	return s
}

type given struct {
	c api.Config
	l []api.Tuple
}

// some are configurations, each with tuples: good ones and others.
func some(t *testing.T) []given {
	l := []given{{sound(t, office), append(badTuples(), read(t, "doc:a#one@user:b"), read(t, "doc:a#mixed@bot:*"), read(t, "doc:a#set@group:b#member"))}}
	m := newMaker(114)
	for range 300 {
		g := given{c: m.config()}
		for range m.Intn(40) {
			g.l = append(g.l, m.tuple())
		}
		l = append(l, g)
	}
	return l
}

func TestP10WhatIsHandedInStaysAndIsntKept(t *testing.T) {
	for _, g := range some(t) {
		want := answers(g.c, g.l)
		var o own
		c, l := o.config(g.c), o.tuples(g.l)
		before := whole(c, l)
		if got := answers(c, l); got != want {
			t.Fatalf("R6: %s: an answer hangs on spare room: %s, want %s", before, got, want)
		}
		if whole(c, l) != before {
			t.Fatalf("R6: it is changed, or its spare room: %s", before)
		}
		o.spoil()
		clear(c.Types)
		clear(l)
		if got := answers(g.c, g.l); got != want {
			t.Fatalf("R6: %s: an answer hangs on what was handed in before: %s, want %s", before, got, want)
		}
	}
}

// R8: answers hang on arguments alone: not on calls ahead.
func TestP10AnswersHangOnArgumentsAlone(t *testing.T) {
	l := some(t)
	var first []string
	for _, g := range l {
		first = append(first, answers(g.c, g.l))
	}
	for k := len(l) - 1; k >= 0; k-- {
		if s := answers(l[k].c, l[k].l); s != first[k] {
			t.Fatalf("R8: another answer the second time: %s, first %s", s, first[k])
		}
	}
}

// R5: lists that are nil and empty mean the same.
func TestP10EmptyListsMeanTheSame(t *testing.T) {
	x := tuple("d", "a", "r", "d", "b", "")
	for _, allowed := range [][]api.Allow{nil, {}, make([]api.Allow, 0, 3)} {
		c := api.Config{Types: []api.Type{{Name: "d", Rels: []api.Rel{{Name: "r", Allow: allowed, Expr: node{Kind: api.Computed, A: "r"}}}}}}
		if lot.Fit(c, x) != api.ErrKind || lot.Unfit(c, []api.Tuple{x}) != 0 || lot.Direct(c, "d", "r") || lot.Known(c, api.Object{Type: "d", Id: "a"}, "r", x.Subject) != api.OK {
			t.Error("R5: of what is allowed")
		}
	}
	for _, rels := range [][]api.Rel{nil, {}, make([]api.Rel, 0, 3)} {
		c := api.Config{Types: []api.Type{{Name: "d", Rels: rels}}}
		if lot.Fit(c, x) != api.ErrName || lot.Unfit(c, []api.Tuple{x}) != 0 || lot.Direct(c, "d", "r") || lot.Known(c, api.Object{Type: "d", Id: "a"}, "r", x.Subject) != api.ErrName {
			t.Error("R5: of relations")
		}
	}
	for _, types := range [][]api.Type{nil, {}, make([]api.Type, 0, 3)} {
		c := api.Config{Types: types}
		if lot.Fit(c, x) != api.ErrName || lot.Unfit(c, nil) != -1 || lot.Unfit(c, []api.Tuple{}) != -1 || lot.Direct(c, "d", "r") || lot.Known(c, api.Object{Type: "d", Id: "a"}, "r", x.Subject) != api.ErrName {
			t.Error("R5: of types")
		}
	}
}

// R7: Unfit takes any tuples, and any configuration, and tells of it as it
// stands.
func TestP11_1UnfitOfAnyConfiguration(t *testing.T) {
	bad := node{Kind: -7, A: "\xff", Kids: []node{{}, {Kind: 99, Kids: []node{{}}}}}
	rel := func(name string, allowed ...api.Allow) api.Rel { return api.Rel{Name: name, Allow: allowed, Expr: bad} }
	c := api.Config{Types: []api.Type{
		{Name: "a"},
		{Name: "a", Rels: []api.Rel{rel("r", api.Allow{Type: "a"}), rel("r", api.Allow{Type: "b"}), rel("this", api.Allow{Type: "type"})}},
		{Name: "b", Rels: []api.Rel{rel("q", api.Allow{Type: "b"}, api.Allow{Type: "b"}, api.Allow{Type: "b", Relation: "nowhere"})}},
		{Name: "a", Rels: []api.Rel{rel("r", api.Allow{Type: "b"}), rel("s", api.Allow{Type: "nowhere"}, api.Allow{Type: "b", Wild: true, Relation: "q"})}},
		{Name: "type", Rels: []api.Rel{rel("", api.Allow{}), rel("rel", api.Allow{Type: "\xff"})}},
		{Name: "", Rels: []api.Rel{rel("", api.Allow{}), rel("r", api.Allow{Type: "a"})}},
		{Name: "\xff", Rels: []api.Rel{rel("r", api.Allow{Type: "\xff"})}},
	}}
	for s, fit := range map[string]bool{
		"a:x#r@a:x": true, "a:x#r@b:x": false, // the first relation of that name
		"a:x#this@type:x": true, "type:x#rel@a:x": false,
		"b:x#q@b:x": true, "b:x#q@b:x#nowhere": true, "b:x#q@b:*": false, "b:x#q@b:x#q": false,
		"a:x#s@nowhere:x": false, "a:x#s@b:*": true, "a:x#s@b:x": false, "a:x#s@b:x#q": false, // of the second type of that name
	} {
		want := 0
		if fit {
			want = -1
		}
		if got := lot.Unfit(c, []api.Tuple{read(t, s)}); got != want {
			t.Errorf("R7: Unfit(%s): %d, want %d", s, got, want)
		}
	}
	// What isn't good doesn't fit, even where all of it is there.
	for _, x := range append(badTuples(), tuple("", "", "", "", "", ""), tuple("", "x", "r", "a", "x", ""), tuple("\xff", "x", "r", "\xff", "x", ""), tuple("type", "x", "", "", "x", "")) {
		if got := lot.Unfit(c, []api.Tuple{x}); got != 0 {
			t.Errorf("R7: Unfit(%q): %d, want 0", x, got)
		}
	}
}

// line is a node so deep that calls within calls would need more stack than
// the test lets there be.
func line(depth int) node {
	l := make([]node, depth)
	for k := range l {
		l[k] = node{Kind: api.Union, A: "a", Kids: l[k+1 : min(k+2, depth)]}
	}
	return l[0]
}

// endless is a node whose list holds itself.
func endless() node {
	l := []node{{Kind: api.Meet, A: "a"}, {Kind: api.This}, {Kind: api.Except, B: "b"}}
	l[0].Kids, l[2].Kids = l[1:], l
	return l[2]
}

// shared is a node of far more nodes than can be gone through one by one.
func shared() node {
	n := node{Kind: api.This}
	for range 60 {
		n = node{Kind: api.Union, Kids: []node{n, n}}
	}
	return n
}

// No expression is looked at, however many tuples there are.
func TestP9ExpressionsOfAnyKind(t *testing.T) {
	defer debug.SetMaxStack(debug.SetMaxStack(1 << 22))
	l := slices.Repeat([]api.Tuple{tuple("a", "x", "r", "a", "y", "")}, 1<<16)
	for _, n := range []node{{}, endless(), shared(), line(1 << 18), {Kind: api.Meet, Kids: []node{endless(), shared(), line(1 << 10)}}} {
		c := api.Config{Types: []api.Type{{Name: "a", Rels: []api.Rel{{Name: "r", Allow: []api.Allow{{Type: "a"}}, Expr: n}}}}}
		if k := lot.Unfit(c, l); k != -1 {
			t.Errorf("P9: Unfit: %d", k)
		}
		if e := lot.Known(c, api.Object{Type: "a", Id: "x"}, "r", l[0].Subject); e != api.OK || !lot.Direct(c, "a", "r") {
			t.Errorf("P9: Known: %d, Direct: %v", e, lot.Direct(c, "a", "r"))
		}
	}
}

// More than may be, and texts of any length.
func TestP9EveryCallEnds(t *testing.T) {
	const most = 1 << 16
	var c api.Config
	for k := range most {
		c.Types = append(c.Types, api.Type{Name: fmt.Sprint("t", k)})
	}
	rels, allowed := make([]api.Rel, most), make([]api.Allow, most)
	for k := range rels {
		rels[k].Name, allowed[k].Type = fmt.Sprint("r", k), fmt.Sprint("t", k)
	}
	rels[most-1].Allow = allowed
	c.Types[most-1].Rels = rels
	last := fmt.Sprint("t", most-1)
	l := []api.Tuple{tuple(last, "x", fmt.Sprint("r", most-1), last, "y", ""), tuple(last, "x", fmt.Sprint("r", most-1), last, "*", "")}
	if k := lot.Unfit(c, l); k != 1 {
		t.Errorf("P9: Unfit: %d", k)
	}
	if e := lot.Fit(c, l[1]); e != api.ErrKind {
		t.Errorf("P9: Fit: %d", e)
	}
	if !lot.Direct(c, last, fmt.Sprint("r", most-1)) || lot.Direct(c, last, "r0") || lot.Direct(c, "t0", "r0") {
		t.Error("P9: Direct")
	}
	words := []string{"", "a", "*", "\xff", "type", "this", strings.Repeat("a", 1<<20), strings.Repeat("\xff", 1<<20), strings.Repeat("\u00e4", 1<<20)}
	for _, c := range []api.Config{{}, {Types: make([]api.Type, 3)}, {Types: []api.Type{{Rels: make([]api.Rel, 3)}}}, {Types: []api.Type{{Name: "a", Rels: []api.Rel{{Name: "a", Allow: make([]api.Allow, 3)}}}}}} {
		for _, s := range words {
			for _, r := range words {
				for _, x := range []api.Tuple{tuple(s, r, s, s, r, s), tuple(r, s, r, "a", "a", r), tuple(r, "a", r, s, "*", ""), tuple("a", "a", "a", s, "a", r)} {
					e, k := lot.Fit(c, x), lot.Unfit(c, []api.Tuple{x})
					if e == api.OK || k != 0 {
						t.Errorf("P9: Fit(%.200q): %d, %d", fmt.Sprint(x), e, k)
					}
					lot.Known(c, api.Object{Type: x.Type, Id: x.Id}, x.Relation, x.Subject)
					lot.Direct(c, x.Type, x.Relation)
				}
			}
		}
	}
}
