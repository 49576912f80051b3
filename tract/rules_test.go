package tract_test

import (
	"reflect"
	"runtime/debug"
	"slices"
	"strings"
	"testing"
	"unsafe"

	"stile/api"
	"stile/tract"
)

// overlap: has the piece of memory that begins at a a byte of that at b?
func overlap(a, b unsafe.Pointer, sizeA, sizeB uintptr) bool {
	return sizeA > 0 && sizeB > 0 && uintptr(a) < uintptr(b)+sizeB && uintptr(b) < uintptr(a)+sizeA
}

// piece: a text, or a list with its spare room, as memory.
type piece struct {
	at   unsafe.Pointer
	size uintptr
}

func ofText(s string) piece {
	return piece{unsafe.Pointer(unsafe.StringData(s)), uintptr(len(s))}
}

func ofList[T any](l []T) piece {
	var one T
	return piece{unsafe.Pointer(unsafe.SliceData(l)), uintptr(cap(l)) * unsafe.Sizeof(one)}
}

// ofNode is all memory of a node.
func ofNode(n node) []piece {
	l := []piece{ofText(n.A), ofText(n.B), ofList(n.Kids)}
	for _, k := range n.Kids {
		l = append(l, ofNode(k)...)
	}
	return l
}

// ofExpr is all memory of an expression, but what its interfaces point to.
func ofExpr(e tract.Expr) []piece {
	var l []piece
	var parts []tract.Expr
	switch x := e.(type) {
	case tract.Computed:
		l = append(l, ofText(x.Relation))
	case tract.Arrow:
		l = append(l, ofText(x.Via), ofText(x.Relation))
	case tract.Union:
		l, parts = append(l, ofList(x.Parts)), x.Parts
	case tract.Meet:
		l, parts = append(l, ofList(x.Parts)), x.Parts
	case tract.Except:
		parts = []tract.Expr{x.Base, x.Minus}
	}
	for _, p := range parts {
		l = append(l, ofExpr(p)...)
	}
	return l
}

func ofRefs(refs []tract.Ref) []piece {
	l := []piece{ofList(refs)}
	for _, r := range refs {
		l = append(l, ofText(r.Via), ofText(r.Relation))
	}
	return l
}

// apart: does none of the pieces, but with itself, share a byte with another?
func apart(pieces []piece) bool {
	for k, a := range pieces {
		for _, b := range pieces[:k] {
			if overlap(a.at, b.at, a.size, b.size) {
				return false
			}
		}
	}
	return true
}

// roomy is a node whose lists, at all depths, have spare room on both sides,
// filled with mark; told says all that stands in these.
func roomy(n node) (handed node, told func() string) {
	mark := node{Kind: 99, A: "mark", B: "mark", Kids: []node{{}}}
	whole := []node{mark, mark}
	var within []func() string
	for _, k := range n.Kids {
		kid, f := roomy(k)
		whole, within = append(whole, kid), append(within, f)
	}
	whole = append(whole, mark, mark, mark)
	n.Kids = whole[2 : 2+len(n.Kids)]
	return n, func() string {
		s := text(node{Kids: whole[:cap(whole)]})
		for _, f := range within {
			s += f()
		}
		return s
	}
}

// spoil changes all of a node's lists, with their room.
func spoil(n node) {
	for _, k := range n.Kids {
		spoil(k)
	}
	l := n.Kids[:cap(n.Kids)]
	for k := range l {
		l[k] = node{Kind: 98, A: "spoilt"}
	}
}

// spoilParts changes all lists of an expression, with their room.
func spoilParts(e tract.Expr) {
	var l []tract.Expr
	switch x := e.(type) {
	case tract.Union:
		l = x.Parts
	case tract.Meet:
		l = x.Parts
	case tract.Except:
		spoilParts(x.Base)
		spoilParts(x.Minus)
	}
	for k, p := range l {
		spoilParts(p)
		l[k] = tract.Computed{Relation: "spoilt"}
	}
}

// some are nodes with texts of their own memory.
func some() []node {
	own := func(s string) string { return strings.Clone(s) }
	e := except(union(this(), computed(own("aa")), meet(arrow(own("pp"), own("bb")), computed(own("aa")))), except(arrow(own("pp"), own("bb")), meet(computed(own("cc")), this())))
	return append([]node{e, union(computed(own("aa")), e), meet(this(), arrow(own("pp"), own("bb")))}, goods(4)...)
}

func TestP5_4WhatIsHandedInStays(t *testing.T) {
	for _, n := range append(some(), union(this()), except(this(), node{A: "x", Kids: []node{{}}}), wide(30), chain(api.Meet, 10)) {
		want := text(n)
		handed, told := roomy(n)
		before := told()
		tract.Good(handed)
		tract.Size(handed)
		tract.Depth(handed)
		tract.Same(handed, n)
		tract.Same(n, handed)
		e, f := tract.Build(handed)
		if f == api.OK {
			tract.Refs(e)
			tract.Direct(e, true)
			tract.Plain(e)
			spoil(e.Node())
			via(e)
			if text(e.Node()) != want {
				t.Errorf("%s: its expression is changed by a call", want)
			}
			spoilParts(e)
		}
		if text(handed) != want || told() != before {
			t.Errorf("%s: what is handed in is changed, or its spare room", want)
		}
	}
}

func TestP5_4WhatIsHandedInIsntKept(t *testing.T) {
	for _, n := range some() {
		want := text(n)
		handed, _ := roomy(n)
		e := built(t, handed)
		refs := tract.Refs(e)
		again := tract.Refs(e)
		spoil(handed)
		if text(e.Node()) != want {
			t.Errorf("%s: its expression hangs on what was handed in", want)
		}
		// Nor do a node and references hang on an expression behind the call.
		answer := e.Node()
		spoilParts(e)
		if text(answer) != want || !reflect.DeepEqual(refs, again) {
			t.Errorf("%s: an answer hangs on its expression", want)
		}
	}
	// Nor are texts kept.
	raw := []byte("aa")
	s := unsafe.String(&raw[0], len(raw))
	e := built(t, union(computed(s), arrow(s, s)))
	raw[0] = 'x'
	if got := text(e.Node()); got != text(union(computed("aa"), arrow("aa", "aa"))) {
		t.Errorf("an expression hangs on texts that were handed in: %s", got)
	}
}

func TestP5_4AnswersAreNewMemory(t *testing.T) {
	for _, n := range some() {
		e := built(t, n)
		other := built(t, n)
		handed := ofNode(n)
		for name, answers := range map[string][]piece{
			"Build":        append(ofExpr(e), ofExpr(other)...),
			"Node":         append(append(ofNode(e.Node()), ofNode(e.Node())...), ofExpr(e)...),
			"Refs":         append(append(ofRefs(tract.Refs(e)), ofRefs(tract.Refs(e))...), ofExpr(e)...),
			"Node of more": append(ofNode(other.Node()), ofExpr(e)...),
		} {
			if !apart(answers) {
				t.Errorf("%s: %s: two answers, or two lists of one, share memory", text(n), name)
			}
			for _, a := range answers {
				for _, b := range handed {
					if overlap(a.at, b.at, a.size, b.size) {
						t.Errorf("%s: %s shares memory with what was handed in", text(n), name)
					}
				}
			}
		}
		if a, panics := via(e); !panics {
			b, _ := via(e)
			if !apart(append(ofExpr(e), ofText(a.Via), ofText(a.Relation), ofText(b.Via), ofText(b.Relation))) {
				t.Errorf("%s: Via's answer shares memory", text(n))
			}
		}
	}
	// A list that stands at two places is built as two.
	kids := []node{this(), computed("a")}
	n := except(union(kids...), meet(kids...))
	e := built(t, n)
	if !apart(ofExpr(e)) || !apart(ofNode(e.Node())) {
		t.Error("lists of one answer share memory")
	}
}

// R7 and the chapter allow any node here.
func TestP9EveryCallEnds(t *testing.T) {
	calls := func(n node) {
		tract.Good(n)
		tract.Size(n)
		tract.Depth(n)
		tract.Same(n, n)
		e, _ := tract.Build(n)
		if e == nil {
			return
		}
		tract.Refs(e)
		tract.Direct(e, true)
		tract.Direct(e, false)
		tract.Plain(e)
		e.Node()
	}
	for _, whole := range goods(5) {
		for _, x := range []node{{}, {Kind: -1, A: "\xff", B: "\x00", Kids: []node{{}, {}}}, union(), meet(), except(), except(this())} {
			places(whole, x, calls)
		}
	}
	for _, s := range []string{"", "\x00", "\xff\xff", strings.Repeat("a", 1<<20), strings.Repeat("\xff", 1<<20)} {
		tract.Word(s)
		calls(computed(s))
		calls(arrow(s, s))
		calls(node{A: s, B: s})
	}
	// Expressions that nothing built are gone through, too, and what isn't one.
	for _, e := range []tract.Expr{nil, tract.Union{}, tract.Meet{}, tract.Except{}, tract.Union{Parts: make([]tract.Expr, 3)}, tract.Arrow{}, tract.Computed{}} {
		tract.Refs(e)
		tract.Direct(e, true)
		tract.Plain(e)
		via(e)
		if e != nil {
			e.Node()
		}
	}
}

// A node may be far deeper, and greater, than expressions: so deep that calls
// within calls would need more stack than is let here.
func TestP9DeepAndGreatNodes(t *testing.T) {
	defer debug.SetMaxStack(debug.SetMaxStack(1 << 22))
	const most = 1 << 18
	line := func() node {
		l := make([]node, most)
		for k := range l {
			l[k] = node{Kind: api.Union, Kids: l[k+1 : min(k+2, most)]}
		}
		return l[0]
	}
	deep := line()
	if tract.Good(deep) || tract.Size(deep) != most || tract.Depth(deep) != most || !tract.Same(deep, line()) {
		t.Error("a deep node")
	}
	if _, f := tract.Build(deep); f != api.ErrForm {
		t.Errorf("Build of a deep node: %d", f)
	}
	great := wide(most)
	if !tract.Good(great) || tract.Size(great) != most || tract.Depth(great) != 2 || tract.Same(great, deep) {
		t.Error("a great node")
	}
	if _, f := tract.Build(great); f != api.ErrFull {
		t.Errorf("Build of a great node: %d", f)
	}
	// One that is good, and so deep.
	kids := make([]node, 2*most)
	for k := range most - 1 {
		kids[2*k] = this()
		kids[2*k+1] = node{Kind: api.Except, Kids: kids[2*k+2 : 2*k+4]}
	}
	kids[2*most-2], kids[2*most-1] = this(), computed("a")
	good := meet(kids[:2]...)
	if !tract.Good(good) || tract.Depth(good) != most+1 || tract.Size(good) != 2*most+1 {
		t.Error("a good deep node")
	}
	if _, f := tract.Build(good); f != api.ErrFull {
		t.Errorf("Build of a good deep node: %d", f)
	}
}

// shared is a node whose lists stand in each other twice: of far more nodes
// than can be gone through one by one.
func shared(last node) node {
	n := last
	for range 60 {
		n = union(n, n)
	}
	return n
}

// endless is a node whose list holds itself, behind so many others.
func endless(lead int, first node) node {
	l := []node{first, {Kind: api.Union}}
	l[1].Kids = l
	n := l[1]
	for range lead {
		n = union(first, n)
	}
	return n
}

// R7: Same takes any nodes, also those that have no end, or as good as none:
// they are the same, if no part of them is another one.
func TestP9SameOfEndlessNodes(t *testing.T) {
	some := func() []node {
		return []node{
			shared(this()), shared(computed("a")), endless(0, this()), endless(0, computed("a")), endless(0, shared(this())),
			endless(1, except(this(), this())), union(this(), endless(3, computed("a"))), meet(this(), endless(0, this())), union(this(), union(this(), this())),
		}
	}
	others := some()
	for k, a := range some() {
		for j, b := range others {
			if tract.Same(a, b) != (k == j) {
				t.Errorf("Same of nodes %d and %d isn't %v", k, j, k == j)
			}
		}
	}
	for lead := range 5 {
		if !tract.Same(endless(lead, this()), endless(0, this())) || !tract.Same(endless(2, this()), endless(lead, this())) || tract.Same(endless(lead, this()), endless(1, computed("a"))) {
			t.Errorf("Same of nodes that hold themselves, %d deep", lead)
		}
	}
	// Lists that begin at the same place, but aren't as long.
	l, m := []node{this(), this(), this()}, []node{this(), this(), computed("a")}
	parts := func(l []node) []node { return []node{union(l[:2]...), union(l...), union(l[:2]...)} }
	if tract.Same(union(parts(l)...), union(parts(m)...)) || !tract.Same(union(parts(l)...), union(parts(slices.Clone(l))...)) {
		t.Error("Same of lists that begin at the same place")
	}
}

func TestP10ErrorsStandAlone(t *testing.T) {
	// R2 and R3: beside an error there is no expression; the first one is told.
	for _, c := range []struct {
		n    node
		want api.Errno
	}{
		{node{}, api.ErrForm}, {union(wide(30), chain(api.Meet, 12), node{}), api.ErrForm},
		{union(wide(30), chain(api.Meet, 12)), api.ErrFull}, {chain(api.Meet, 12), api.ErrDeep},
	} {
		if e, f := tract.Build(c.n); e != nil || f != c.want {
			t.Errorf("R3: Build: %v, %d, not %d", e, f, c.want)
		}
	}
}

// R4 and R8: answers hang on arguments alone: not on calls ahead, nor on those
// that fail.
func TestP10AnswersHangOnArgumentsAlone(t *testing.T) {
	l := some()
	var first []tract.Expr
	for _, n := range l {
		first = append(first, built(t, n))
	}
	tract.Build(wide(30))
	tract.Build(chain(api.Meet, 12))
	tract.Build(node{})
	for k := len(l) - 1; k >= 0; k-- {
		handed, _ := roomy(l[k])
		e := built(t, handed)
		if !reflect.DeepEqual(e, first[k]) || text(first[k].Node()) != text(l[k]) {
			t.Errorf("R8: %s: another expression", text(l[k]))
		}
		if !reflect.DeepEqual(tract.Refs(e), tract.Refs(first[k])) || tract.Direct(e, true) != tract.Direct(first[k], true) {
			t.Errorf("R8: %s: another answer", text(l[k]))
		}
		if !tract.Same(handed, l[k]) || tract.Size(handed) != size(l[k]) || tract.Depth(handed) != depth(l[k]) {
			t.Errorf("R8: %s: answers hang on spare room", text(l[k]))
		}
	}
}

func TestP10EmptyListsMeanTheSame(t *testing.T) {
	// R5: Kids nil, empty, and empty with spare room.
	room := []node{this(), this(), this()}
	empties := [][]node{nil, {}, room[:0], room[1:1], make([]node, 0, 4)}
	for _, leaf := range []node{this(), computed("a"), arrow("p", "b")} {
		for _, kids := range empties {
			n := leaf
			n.Kids = kids
			whole := union(n, meet(leaf, n))
			if !tract.Good(n) || tract.Size(n) != 1 || tract.Depth(n) != 1 || !tract.Same(n, leaf) || !tract.Same(leaf, n) || !tract.Same(whole, union(leaf, meet(leaf, leaf))) {
				t.Errorf("R5: %s", text(n))
			}
			e := built(t, n)
			if !reflect.DeepEqual(e, built(t, leaf)) || !tract.Same(e.Node(), leaf) || len(e.Node().Kids) != 0 {
				t.Errorf("R5: Build(%s): %v", text(n), e)
			}
		}
	}
	for _, kids := range empties {
		for kind := range 8 {
			n := node{Kind: kind, Kids: kids}
			if _, f := tract.Build(n); (f == api.OK) != (kind == api.This) {
				t.Errorf("R5: Build(%s): %d", text(n), f)
			}
		}
	}
	if len(tract.Refs(built(t, union(this(), this())))) != 0 {
		t.Error("R5: references of none")
	}
}
