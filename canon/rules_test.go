package canon_test

import (
	"runtime/debug"
	"strings"
	"testing"
	"unsafe"

	"stile/api"
	"stile/canon"
)

// overlap: have two texts a byte of memory that is the same?
func overlap(a, b string) bool {
	if a == "" || b == "" {
		return false
	}
	atA, atB := uintptr(unsafe.Pointer(unsafe.StringData(a))), uintptr(unsafe.Pointer(unsafe.StringData(b)))
	return atA < atB+uintptr(len(b)) && atB < atA+uintptr(len(a))
}

// An own is a text's bytes, which the test may change.
type own [][]byte

// text is a copy of s that the test may change.
func (o *own) text(s string) string {
	if s == "" {
		return ""
	}
	raw := []byte(s)
	*o = append(*o, raw)
	return unsafe.String(&raw[0], len(raw))
}

func (o *own) node(n node) node {
	n.A, n.B = o.text(n.A), o.text(n.B)
	n.Kids = roomy(n.Kids, node{Kind: 99, A: "mark"}, o.node)
	return n
}

func (o *own) allow(a api.Allow) api.Allow {
	a.Type, a.Relation = o.text(a.Type), o.text(a.Relation)
	return a
}

func (o *own) rel(r api.Rel) api.Rel {
	r.Name, r.Expr = o.text(r.Name), o.node(r.Expr)
	r.Allow = roomy(r.Allow, api.Allow{Type: "mark"}, o.allow)
	return r
}

func (o *own) kind(t api.Type) api.Type {
	t.Name = o.text(t.Name)
	t.Rels = roomy(t.Rels, api.Rel{Name: "mark"}, o.rel)
	return t
}

// config is one like c with texts of its own, and room around its lists.
func (o *own) config(c api.Config) api.Config {
	c.Types = roomy(c.Types, api.Type{Name: "mark"}, o.kind)
	return c
}

// roomy is a list like l with marks as spare room.
func roomy[T any](l []T, mark T, copied func(x T) T) []T {
	var whole []T
	for _, x := range l {
		whole = append(whole, copied(x))
	}
	whole = append(whole, mark, mark)
	return whole[:len(l)]
}

// withRoom is a configuration whose lists go as far as their room does.
func withRoom(c api.Config) api.Config {
	var full func(n node) node
	full = func(n node) node {
		var kids []node
		for _, k := range n.Kids[:cap(n.Kids)] {
			kids = append(kids, full(k))
		}
		n.Kids = kids
		return n
	}
	var all api.Config
	for _, t := range c.Types[:cap(c.Types)] {
		var rels []api.Rel
		for _, r := range t.Rels[:cap(t.Rels)] {
			r.Expr = full(r.Expr)
			r.Allow = r.Allow[:cap(r.Allow)]
			rels = append(rels, r)
		}
		t.Rels = rels
		all.Types = append(all.Types, t)
	}
	return all
}

// some are configurations of both kinds, well made ones and others.
func some() []api.Config {
	l := []api.Config{{}, whole(), config(this()), config(computed("a")), config(arrow("a", "b")), config(wide(24)), config(wide(25)), config(chain(api.Meet, 8)), config(chain(api.Except, 9))}
	for _, n := range faults() {
		c := copied(whole())
		c.Types[2].Rels[3].Expr = union(this(), n)
		l = append(l, config(n), c)
	}
	for s := range words {
		eachName(func(_ string, c api.Config, name *string) {
			*name = s
			l = append(l, c)
		})
	}
	m := newMaker(84)
	for range 100 {
		l = append(l, m.config())
	}
	return l
}

// exprs are all expressions of a configuration.
func exprs(c api.Config) []node {
	var l []node
	for _, t := range c.Types {
		for _, r := range t.Rels {
			l = append(l, r.Expr)
		}
	}
	return l
}

// R6: what is handed in stays, spare room included, and isn't kept; answers
// share no memory with it.
func TestP10WhatIsHandedInStaysAndIsntKept(t *testing.T) {
	for _, c := range some() {
		var o own
		handed := o.config(c)
		before := ofConfig(withRoom(handed))
		good := canon.Good(handed)
		s, e := canon.Print(handed)
		var texts []string
		for _, n := range exprs(handed) {
			x, _ := canon.Expr(n)
			texts = append(texts, x)
		}
		if ofConfig(withRoom(handed)) != before {
			t.Fatalf("R6: %.300s: it is changed, or its spare room", ofConfig(c))
		}
		for _, raw := range o {
			for _, x := range append(texts, s) {
				if overlap(x, unsafe.String(&raw[0], len(raw))) {
					t.Fatalf("R6: %.300s: an answer shares memory with it", ofConfig(c))
				}
			}
		}
		for _, raw := range o {
			for k := range raw {
				raw[k] = 'x'
			}
		}
		// R8: of the same there is the same answer, whatever room is around.
		again, fault := canon.Print(c)
		if s != again || e != fault || good != canon.Good(c) {
			t.Fatalf("R6: %.300s: an answer hangs on what was handed in", ofConfig(c))
		}
		for k, n := range exprs(c) {
			if x, _ := canon.Expr(n); x != texts[k] {
				t.Fatalf("R6: %s: its text hangs on what was handed in", ofNode(n))
			}
		}
	}
}

// R3: beside an error there is no text. R2: there is one error alone.
func TestP10ErrorsStandAlone(t *testing.T) {
	for _, c := range some() {
		s, e := canon.Print(c)
		if e != api.OK && e != api.ErrForm || e != api.OK && s != "" || (e == api.OK) != canon.Good(c) {
			t.Fatalf("R3: Print(%.300s): %.300q, %d", ofConfig(c), s, e)
		}
		for _, n := range exprs(c) {
			s, e := canon.Expr(n)
			if e != api.OK && e != api.ErrForm || (e == api.OK) != (s != "") || (e == api.OK) != canon.Good(config(n)) {
				t.Fatalf("R3: Expr(%.300s): %.300q, %d", ofNode(n), s, e)
			}
		}
	}
	// What is printed ahead of what is wrong isn't answered.
	c := whole()
	c.Types = append(c.Types, api.Type{Name: "type"})
	unmade(t, c)
}

// R5: lists that are nil and empty mean the same.
func TestP10EmptyListsMeanTheSame(t *testing.T) {
	for _, kids := range [][]node{nil, {}, make([]node, 0, 3)} {
		says(t, node{Kind: api.This, Kids: kids}, "this")
		says(t, node{Kind: api.Computed, A: "a", Kids: kids}, "a")
		says(t, union(node{Kind: api.Arrow, A: "a", B: "b", Kids: kids}, this()), "a->b | this")
		for _, kind := range []int{api.Union, api.Meet, api.Except} {
			speechless(t, node{Kind: kind, Kids: kids})
		}
	}
	for _, allow := range [][]api.Allow{nil, {}, make([]api.Allow, 0, 3)} {
		c := config(this())
		c.Types[0].Rels[0].Allow = allow
		prints(t, c, "type t {\n  rel r = this;\n}\n")
	}
	for _, rels := range [][]api.Rel{nil, {}, make([]api.Rel, 0, 3)} {
		prints(t, api.Config{Types: []api.Type{{Name: "a", Rels: rels}}}, "type a {\n}\n")
	}
	for _, l := range [][]api.Type{nil, {}, make([]api.Type, 0, 3)} {
		prints(t, api.Config{Types: l}, "")
	}
}

// R4 and R8: answers hang on arguments alone: not on calls ahead, nor on those
// that fail.
func TestP10AnswersHangOnArgumentsAlone(t *testing.T) {
	type answer struct {
		good bool
		text string
		e    api.Errno
	}
	ask := func(c api.Config) answer {
		s, e := canon.Print(c)
		return answer{canon.Good(c), s, e}
	}
	l := some()
	var first []answer
	for _, c := range l {
		first = append(first, ask(c))
	}
	for k := len(l) - 1; k >= 0; k-- {
		if ask(l[k]) != first[k] {
			t.Fatalf("R8: %.300s: another answer the second time", ofConfig(l[k]))
		}
	}
}

// deep is a node so deep that calls within calls would need more stack than
// the test lets there be.
func deep(most int) node {
	l := make([]node, 2*most)
	for k := range most - 1 {
		l[2*k] = this()
		l[2*k+1] = node{Kind: api.Union, Kids: l[2*k+2 : 2*k+4]}
	}
	l[2*most-2], l[2*most-1] = this(), this()
	return meet(l[:2]...)
}

// shared is a node whose lists stand in each other twice: of far more nodes
// than can be gone through one by one.
func shared() node {
	n := this()
	for range 60 {
		n = union(n, n)
	}
	return n
}

// endless is a node whose list holds itself.
func endless(kind int) node {
	l := []node{this(), {Kind: kind}}
	l[1].Kids = l
	return l[1]
}

// R7: these calls take what isn't good, too.
func TestP9EveryCallEnds(t *testing.T) {
	defer debug.SetMaxStack(debug.SetMaxStack(1 << 22))
	refused := func(n node) {
		if s, e := canon.Expr(n); s != "" || e != api.ErrForm {
			t.Errorf("Expr: %.300q, %d, want ErrForm", s, e)
		}
		for _, c := range []api.Config{config(n), {Types: append(config(this()).Types, config(union(this(), n)).Types...)}} {
			if s, e := canon.Print(c); s != "" || e != api.ErrForm || canon.Good(c) {
				t.Errorf("Print: %.300q, %d, want ErrForm", s, e)
			}
		}
	}
	for _, n := range []node{deep(1 << 18), wide(1 << 20), shared(), endless(api.Union), endless(api.Meet), endless(api.Except), endless(0), union(wide(1<<18), endless(api.Union))} {
		refused(n)
		refused(except(n, n))
	}
	for _, s := range []string{strings.Repeat("a", 1<<20), strings.Repeat("\xff", 1<<20), strings.Repeat("(", 1<<20)} {
		refused(computed(s))
		refused(arrow(s, s))
		refused(node{A: s, B: s})
		eachName(func(_ string, c api.Config, name *string) {
			*name = s
			if canon.Good(c) {
				t.Error("Good of a long name")
			}
		})
	}
	var great api.Config
	for range 1 << 12 {
		great.Types = append(great.Types, whole().Types...)
	}
	prints(t, great, strings.Repeat(wholeText, 1<<12))
}
