package lint_test

import (
	"cmp"
	"fmt"
	"runtime/debug"
	"slices"
	"strings"
	"testing"
	"unsafe"

	"stile/api"
	"stile/lint"
)

// A piece is a text, or a list with its spare room, as memory. It is held by a
// pointer, or the memory might be used again for another answer.
type piece struct {
	at   unsafe.Pointer
	size uintptr
}

func ofText(s string) piece {
	return piece{unsafe.Pointer(unsafe.StringData(s)), uintptr(len(s))}
}

func ofList[T any](l []T) piece {
	var one T
	return piece{unsafe.Pointer(unsafe.SliceData(l)), uintptr(cap(l)) * unsafe.Sizeof(one)}
}

func nodePieces(n node) []piece {
	l := []piece{ofText(n.A), ofText(n.B), ofList(n.Kids)}
	for _, k := range n.Kids {
		l = append(l, nodePieces(k)...)
	}
	return l
}

func relPieces(r api.Rel) []piece {
	l := append(nodePieces(r.Expr), ofText(r.Name), ofList(r.Allow))
	for _, a := range r.Allow {
		l = append(l, ofText(a.Type), ofText(a.Relation))
	}
	return l
}

func configPieces(c api.Config) []piece {
	l := []piece{ofList(c.Types)}
	for _, t := range c.Types {
		l = append(l, ofText(t.Name), ofList(t.Rels))
		for _, r := range t.Rels {
			l = append(l, relPieces(r)...)
		}
	}
	return l
}

func checkPieces(items []lint.Item, at lint.Spot) []piece {
	l := []piece{ofList(items), ofText(at.Type), ofText(at.Relation)}
	for _, x := range items {
		l = append(l, ofText(x.Type), ofText(x.Relation))
	}
	return l
}

func typesPieces(types []string) []piece {
	l := []piece{ofList(types)}
	for _, s := range types {
		l = append(l, ofText(s))
	}
	return l
}

// roomy is a list like l with marks as spare room.
func roomy[T any](l []T, mark T, copied func(x T) T) []T {
	var whole []T
	for _, x := range l {
		whole = append(whole, copied(x))
	}
	whole = append(whole, mark, mark)
	return whole[:len(l):len(whole)]
}

// An own is the bytes of texts that the test may change.
type own [][]byte

func (o *own) text(s string) string {
	if s == "" {
		return ""
	}
	raw := []byte(s)
	*o = append(*o, raw)
	return unsafe.String(&raw[0], len(raw))
}

func (o *own) node(n node) node {
	n.A, n.B = o.text(n.A), o.text(n.B)
	n.Kids = roomy(n.Kids, node{Kind: 99, A: "mark"}, o.node)
	return n
}

func (o *own) allow(a api.Allow) api.Allow {
	a.Type, a.Relation = o.text(a.Type), o.text(a.Relation)
	return a
}

func (o *own) rel(r api.Rel) api.Rel {
	r.Name, r.Expr = o.text(r.Name), o.node(r.Expr)
	r.Allow = roomy(r.Allow, api.Allow{Type: "mark"}, o.allow)
	return r
}

func (o *own) kind(t api.Type) api.Type {
	t.Name = o.text(t.Name)
	t.Rels = roomy(t.Rels, api.Rel{Name: "mark"}, o.rel)
	return t
}

// config is one like c with texts of its own, and room behind its lists.
func (o *own) config(c api.Config) api.Config {
	c.Types = roomy(c.Types, api.Type{Name: "mark"}, o.kind)
	return c
}

// withRoom is a configuration whose lists go as far as their room does.
func withRoom(c api.Config) api.Config {
	var full func(n node) node
	full = func(n node) node {
		var kids []node
		for _, k := range n.Kids[:cap(n.Kids)] {
			kids = append(kids, full(k))
		}
		n.Kids = kids
		return n
	}
	var all api.Config
	for _, t := range c.Types[:cap(c.Types)] {
		var rels []api.Rel
		for _, r := range t.Rels[:cap(t.Rels)] {
			r.Expr = full(r.Expr)
			r.Allow = r.Allow[:cap(r.Allow)]
			rels = append(rels, r)
		}
		t.Rels = rels
		all.Types = append(all.Types, t)
	}
	return all
}

// some are configurations: sound ones, and of each error.
func some(t *testing.T) []api.Config {
	l := []api.Config{{}, {Types: []api.Type{{}}}}
	for _, s := range []string{
		user, user + user, strings.Repeat(user, 7), inD(many(9)), inD("rel aa [user, user] = this;"), inD("rel aa = this;"),
		inD("rel aa [xx] = this;"), inD("rel aa = pp->aa;"), inD("rel aa [user, d#bb] = this - bb; rel bb = aa;"),
		inD("rel aa [user, g#m, user:*, g] = this | bb & (pp->m - bb); rel bb [user] = this; rel pp [g] = this;"),
	} {
		l = append(l, parsed(t, s))
	}
	m := newMaker(93)
	for range 300 {
		c := m.faultless()
		if m.Intn(3) == 0 {
			m.spoil(&c)
		}
		l = append(l, c)
	}
	return l
}

// answers are those of all calls, of all relations of a configuration, as a
// text, and each one's memory.
func answers(c api.Config) (string, [][]piece) {
	items, at, e := lint.Check(c)
	told, memory := fmt.Sprintln(items, at, e), [][]piece{checkPieces(items, at)}
	for _, s := range spots(c) {
		r, e := lint.Find(c, s.Type, s.Relation)
		types, f := lint.Types(c, s.Type, s.Relation)
		told += fmt.Sprintln(ofRel(r), e, types, f)
		memory = append(memory, relPieces(r), typesPieces(types))
	}
	return told, memory
}

// apart: has no piece a byte of another one?
func apart(pieces []piece) bool {
	l := slices.DeleteFunc(slices.Clone(pieces), func(p piece) bool { return p.size == 0 })
	slices.SortFunc(l, func(p, q piece) int { return cmp.Compare(uintptr(p.at), uintptr(q.at)) })
	for k := 1; k < len(l); k++ {
		if uintptr(l[k-1].at)+l[k-1].size > uintptr(l[k].at) {
			return false
		}
	}
	return true
}

func TestP9_3WhatIsHandedInStaysAndAnswersAreNewMemory(t *testing.T) {
	for _, c := range some(t) {
		var o own
		handed := o.config(c)
		before := ofConfig(withRoom(handed))
		told, memory := answers(handed)
		if ofConfig(withRoom(handed)) != before {
			t.Fatalf("P9.3: it is changed, or its spare room:\n%s", ofConfig(c))
		}
		_, again := answers(handed)
		all := configPieces(handed)
		for _, l := range append(memory, again...) {
			all = append(all, l...)
		}
		if !apart(all) {
			t.Fatalf("P9.3: answers share memory, with each other or with it:\n%s", ofConfig(c))
		}
		if same, _ := answers(c); same != told {
			t.Fatalf("R8: of the same another answer:\n%s", ofConfig(c))
		}
	}
}

// What stands at several places in what is handed in is told as several.
func TestP9_3ListsOfOneAnswer(t *testing.T) {
	kids := []node{this(), computed("aa")}
	allowed := []api.Allow{{Type: "tt"}, {Type: "tt", Relation: "aa"}, {Type: "tt", Wild: true}}
	c := api.Config{Types: []api.Type{{Name: "tt", Rels: []api.Rel{{Name: "aa", Allow: allowed, Expr: except(union(kids...), meet(kids...))}}}}}
	told, memory := answers(c)
	for _, l := range memory {
		if !apart(l) {
			t.Errorf("P9.3: lists of one answer share memory: %s", told)
		}
	}
}

// An answer may be changed by whom it is given to.
func TestP9_3AnswersArentKept(t *testing.T) {
	c := parsed(t, inD("rel aa [user, g#m] = this | bb & (pp->m - bb); rel bb [user] = this; rel pp [g, d] = this; rel m = bb;"))
	told, _ := answers(c)
	items, _, _ := lint.Check(c)
	clear(items[:cap(items)])
	types, _ := lint.Types(c, "d", "aa")
	clear(types[:cap(types)])
	r, _ := lint.Find(c, "d", "aa")
	clear(r.Expr.Kids[1].Kids[:cap(r.Expr.Kids[1].Kids)])
	clear(r.Expr.Kids[:cap(r.Expr.Kids)])
	clear(r.Allow[:cap(r.Allow)])
	if again, _ := answers(c); again != told {
		t.Errorf("P9.3: an answer hangs on one of before: %s, then %s", told, again)
	}
}

// R3: beside an error there is nothing but the place; beside OK no place.
func TestP10ErrorsStandAlone(t *testing.T) {
	for _, c := range some(t) {
		items, at, e := lint.Check(c)
		if e != api.OK && len(items) > 0 || e == api.OK && (at != lint.Spot{} || len(items) != len(spots(c))) || e == api.ErrForm && at != (lint.Spot{}) {
			t.Fatalf("R3: %v, %v, %d:\n%s", items, at, e, ofConfig(c))
		}
	}
}

// R5: lists that are nil and empty mean the same.
func TestP10EmptyListsMeanTheSame(t *testing.T) {
	for _, kids := range [][]node{nil, {}, make([]node, 0, 3)} {
		for _, allowed := range [][]api.Allow{nil, {}, make([]api.Allow, 0, 3)} {
			for _, rels := range [][]api.Rel{nil, {}, make([]api.Rel, 0, 3)} {
				c := api.Config{Types: []api.Type{{Name: "user", Rels: rels}, {Name: "d", Rels: []api.Rel{
					{Name: "a", Allow: allowed, Expr: node{Kind: api.Computed, A: "b", Kids: kids}},
					{Name: "b", Allow: []api.Allow{{Type: "user"}}, Expr: node{Kind: api.This, Kids: kids}},
				}}}}
				if got := checked(c); got != "d#a 0, d#b 0" {
					t.Errorf("R5: %s", got)
				}
				finds(t, c, "d", "a", c.Types[1].Rels[0])
				c.Types[1].Rels[1].Allow = allowed
				if got := checked(c); got != wrong(api.ErrKind, "d", "b") {
					t.Errorf("R5: %s", got)
				}
			}
		}
	}
	for _, l := range [][]api.Type{nil, {}, make([]api.Type, 0, 3)} {
		if got := checked(api.Config{Types: l}); got != "" {
			t.Errorf("R5: %s", got)
		}
	}
}

// R8: answers hang on arguments alone: not on calls ahead.
func TestP10AnswersHangOnArgumentsAlone(t *testing.T) {
	l := some(t)
	var first []string
	for _, c := range l {
		s, _ := answers(c)
		first = append(first, s)
	}
	for k := len(l) - 1; k >= 0; k-- {
		if s, _ := answers(l[k]); s != first[k] {
			t.Fatalf("R8: another answer the second time:\n%s", ofConfig(l[k]))
		}
	}
}

// line is a node so deep that calls within calls would need more stack than
// the test lets there be.
func line(depth int) node {
	l := make([]node, depth)
	for k := range l {
		l[k] = node{Kind: api.Union, A: "a", Kids: l[k+1 : min(k+2, depth)]}
	}
	return l[0]
}

// shared is a node whose lists stand in each other twice: of far more nodes
// than can be gone through one by one.
func shared() node {
	n := computed("a")
	for range 60 {
		n = union(n, n)
	}
	return n
}

// endless is a node whose list holds itself.
func endless(kind int) node {
	l := []node{{Kind: kind, A: "a"}, this(), {Kind: kind, B: "b"}}
	l[0].Kids, l[2].Kids = l[1:], l
	return l[2]
}

// alike: are nodes the same, as deep as this, by first and last parts?
func alike(a, b node, deep int) bool {
	for _, last := range []bool{false, true} {
		x, y := a, b
		for range deep {
			if x.Kind != y.Kind || x.A != y.A || x.B != y.B || len(x.Kids) != len(y.Kids) {
				return false
			}
			if len(x.Kids) == 0 {
				break
			}
			at := 0
			if last {
				at = len(x.Kids) - 1
			}
			x, y = x.Kids[at], y.Kids[at]
		}
	}
	return true
}

// Nodes that have no end, or as good as none.
func TestP9EndlessNodes(t *testing.T) {
	const deep = 1 << 18
	for _, n := range []node{endless(api.Union), endless(api.Except), endless(-1), shared(), union(shared(), endless(api.Meet)), meet(this(), line(deep), endless(0))} {
		c := api.Config{Types: []api.Type{{Name: "a", Rels: []api.Rel{{Name: "r", Allow: []api.Allow{{Type: "a"}, {Type: "a"}}, Expr: n}}}}}
		if got := checked(c); got != wrong(api.ErrForm, "", "") {
			t.Errorf("P9: Check: %.200s", got)
		}
		if r, e := lint.Find(c, "a", "r"); e != api.OK || !alike(r.Expr, n, 2*deep) {
			t.Errorf("P9: Find: %d", e)
		}
		if l, e := lint.Types(c, "a", "r"); e != api.OK || !slices.Equal(l, []string{"a"}) {
			t.Errorf("P9: Types: %q, %d", l, e)
		}
	}
}

// An answer shares nothing with what was handed in, however much it is.
func TestP9_3GreatNodes(t *testing.T) {
	const deep, wide = 1 << 18, 1 << 18
	handed := union(line(deep), union(slices.Repeat([]node{this()}, wide)...))
	r, e := lint.Find(api.Config{Types: []api.Type{{Name: "a", Rels: []api.Rel{{Name: "r", Expr: handed}}}}}, "a", "r")
	for n := handed.Kids[0]; len(n.Kids) > 0; {
		next := n.Kids[0]
		clear(n.Kids)
		n = next
	}
	clear(handed.Kids[1].Kids)
	clear(handed.Kids)
	if e != api.OK || !alike(r.Expr.Kids[0], line(deep), deep) || r.Expr.Kids[1].Kids[wide-1].Kind != api.This {
		t.Errorf("P9.3: Find of a great node: %d, or it hangs on what was handed in", e)
	}
}

func depthOf(n node) int {
	depth := 1
	for ; len(n.Kids) > 0; n = n.Kids[len(n.Kids)-1] {
		depth++
	}
	return depth
}

// R7: these calls take what isn't good, too: of any size and depth.
func TestP9EveryCallEnds(t *testing.T) {
	defer debug.SetMaxStack(debug.SetMaxStack(1 << 22))
	const most = 1 << 18
	wide := union(make([]node, most)...)
	allowed := make([]api.Allow, most)
	for k := range allowed {
		allowed[k].Type = fmt.Sprint(k % (most / 2))
	}
	c := api.Config{Types: []api.Type{{Name: "a", Rels: []api.Rel{{Name: "deep", Expr: line(most)}, {Name: "wide", Allow: allowed, Expr: wide}}}}}
	for k := range most {
		c.Types = append(c.Types, api.Type{Name: fmt.Sprint("t", k)})
		c.Types[0].Rels = append(c.Types[0].Rels, api.Rel{Name: fmt.Sprint("r", k)})
	}
	if got := checked(c); got != wrong(api.ErrForm, "", "") {
		t.Errorf("P9: Check: %.200s", got)
	}
	if r, e := lint.Find(c, "a", "deep"); e != api.OK || depthOf(r.Expr) != most {
		t.Errorf("P9: Find of a deep node: %d, of depth %d", e, depthOf(r.Expr))
	}
	if r, e := lint.Find(c, "a", "wide"); e != api.OK || len(r.Expr.Kids) != most || !slices.Equal(r.Allow, allowed) {
		t.Errorf("P9: Find of a wide node: %d", e)
	}
	if l, e := lint.Types(c, "a", "wide"); e != api.OK || len(l) != most/2 || l[most/2-1] != fmt.Sprint(most/2-1) {
		t.Errorf("P9: Types: %d, %d", len(l), e)
	}
	if r, e := lint.Find(c, "a", fmt.Sprint("r", most-1)); e != api.OK || r.Name != fmt.Sprint("r", most-1) {
		t.Errorf("P9: Find: %d", e)
	}
	misses(t, c, fmt.Sprint("t", most-1), "deep")
	// Well made, but of far too many types, relations and kinds.
	great := api.Config{Types: []api.Type{{Name: "a"}}}
	for k := range 1 << 14 {
		great.Types[0].Rels = append(great.Types[0].Rels, api.Rel{Name: fmt.Sprint("r", k), Expr: computed("r0")})
	}
	if got := checked(great); got != wrong(api.ErrFull, "a", "") {
		t.Errorf("P9: Check: %.200s", got)
	}
	great.Types[0].Rels = []api.Rel{{Name: "b", Allow: slices.Repeat([]api.Allow{{Type: "a"}}, most), Expr: this()}}
	if got := checked(great); got != wrong(api.ErrFull, "a", "b") {
		t.Errorf("P9: Check: %.200s", got)
	}
	great.Types = slices.Repeat(great.Types, 1<<4)
	if got := checked(great); got != wrong(api.ErrFull, "", "") {
		t.Errorf("P9: Check: %.200s", got)
	}
}
