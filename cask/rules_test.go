package cask_test

import (
	"bytes"
	"cmp"
	"runtime/debug"
	"slices"
	"strings"
	"testing"
	"unsafe"

	"stile/api"
	"stile/cask"
)

// A piece is a text, or a list with its spare room, as memory.
type piece struct {
	at   unsafe.Pointer
	size uintptr
}

func textPiece(s string) piece {
	return piece{unsafe.Pointer(unsafe.StringData(s)), uintptr(len(s))}
}

func listPiece[T any](l []T) piece {
	var one T
	return piece{unsafe.Pointer(unsafe.SliceData(l)), uintptr(cap(l)) * unsafe.Sizeof(one)}
}

func nodePieces(n node) []piece {
	l := []piece{textPiece(n.A), textPiece(n.B), listPiece(n.Kids)}
	for _, k := range n.Kids {
		l = append(l, nodePieces(k)...)
	}
	return l
}

func configPieces(c api.Config) []piece {
	l := []piece{listPiece(c.Types)}
	for _, t := range c.Types {
		l = append(l, textPiece(t.Name), listPiece(t.Rels))
		for _, r := range t.Rels {
			l = append(l, textPiece(r.Name), listPiece(r.Allow))
			for _, a := range r.Allow {
				l = append(l, textPiece(a.Type), textPiece(a.Relation))
			}
			l = append(l, nodePieces(r.Expr)...)
		}
	}
	return l
}

// apart: has no piece a byte of another one?
func apart(pieces []piece) bool {
	l := slices.DeleteFunc(slices.Clone(pieces), func(p piece) bool { return p.size == 0 })
	slices.SortFunc(l, func(p, q piece) int { return cmp.Compare(uintptr(p.at), uintptr(q.at)) })
	for k := 1; k < len(l); k++ {
		if uintptr(l[k-1].at)+l[k-1].size > uintptr(l[k].at) {
			return false
		}
	}
	return true
}

// roomy is a list like l with marks as spare room behind it.
func roomy[T any](l []T, mark T, copied func(x T) T) []T {
	var whole []T
	for _, x := range l {
		whole = append(whole, copied(x))
	}
	whole = append(whole, mark, mark)
	return whole[:len(l):len(whole)]
}

func roomyNode(n node) node {
	n.A, n.B = strings.Clone(n.A), strings.Clone(n.B)
	n.Kids = roomy(n.Kids, node{Kind: 99, A: "mark"}, roomyNode)
	return n
}

// roomyConfig is a configuration like c, of other memory, with room behind its
// lists.
func roomyConfig(c api.Config) api.Config {
	c.Types = roomy(c.Types, api.Type{Name: "mark"}, func(t api.Type) api.Type {
		t.Name = strings.Clone(t.Name)
		t.Rels = roomy(t.Rels, api.Rel{Name: "mark"}, func(r api.Rel) api.Rel {
			r.Name, r.Expr = strings.Clone(r.Name), roomyNode(r.Expr)
			r.Allow = roomy(r.Allow, api.Allow{Type: "mark"}, func(a api.Allow) api.Allow {
				return api.Allow{Type: strings.Clone(a.Type), Relation: strings.Clone(a.Relation), Wild: a.Wild}
			})
			return r
		})
		return t
	})
	return c
}

func withRoomNode(n node) node {
	n.Kids = slices.Clone(n.Kids[:cap(n.Kids)])
	for k := range n.Kids {
		n.Kids[k] = withRoomNode(n.Kids[k])
	}
	return n
}

// withRoom is a configuration whose lists go as far as their room does.
func withRoom(c api.Config) api.Config {
	c.Types = slices.Clone(c.Types[:cap(c.Types)])
	for k := range c.Types {
		rels := slices.Clone(c.Types[k].Rels[:cap(c.Types[k].Rels)])
		for j, r := range rels {
			rels[j].Allow = r.Allow[:cap(r.Allow)]
			rels[j].Expr = withRoomNode(r.Expr)
		}
		c.Types[k].Rels = rels
	}
	return c
}

// fill sets all of a list, its spare room too.
func fill[T any](l []T, x T) {
	l = l[:cap(l)]
	for k := range l {
		l[k] = x
	}
}

// some are configurations of both kinds.
func some() []api.Config {
	l := append(good(), bad()...)
	m := newMaker(106)
	for range 100 {
		l = append(l, m.config())
	}
	return l
}

func TestP10_3WhatIsPackedStays(t *testing.T) {
	for _, c := range some() {
		handed, other := roomyConfig(c), roomyConfig(c)
		before := ofConfig(withRoom(handed))
		b, e := cask.Pack(handed)
		again, _ := cask.Pack(handed)
		same := cask.Same(handed, other) && cask.Same(other, handed)
		if ofConfig(withRoom(handed)) != before || ofConfig(withRoom(other)) != before {
			t.Fatalf("%.300q: it is changed, or its spare room", ofConfig(c))
		}
		if (e == api.OK) != (string(b) == ofConfig(c)) || !same {
			t.Fatalf("%.300q: an answer hangs on spare room", ofConfig(c))
		}
		if !apart(append(configPieces(handed), listPiece(b), listPiece(again))) {
			t.Fatalf("%.300q: its bytes share memory", ofConfig(c))
		}
		// An answer isn't kept: whoever has it may change it.
		fill(b, '!')
		if third, _ := cask.Pack(handed); !bytes.Equal(third, again) {
			t.Fatalf("%.300q: its bytes hang on an answer of before", ofConfig(c))
		}
	}
}

func TestP10_3WhatIsUnpackedStays(t *testing.T) {
	for _, c := range some() {
		want := ofConfig(c)
		for _, room := range []string{"", "0;", "1;a,0;", ","} {
			raw := []byte("#" + want + room)
			handed := raw[1 : 1+len(want)]
			x, e := cask.Unpack(handed)
			y, f := cask.Unpack(handed)
			if string(raw) != "#"+want+room {
				t.Fatalf("%.300q: they are changed, or their room", want)
			}
			if e != f || (e == api.OK) != (want == ofConfig(x)) || ofConfig(x) != ofConfig(y) {
				t.Fatalf("%.300q: an answer hangs on spare room", want)
			}
			if !apart(append(append(configPieces(x), configPieces(y)...), listPiece(raw))) {
				t.Fatalf("%.300q: answers share memory, with each other or with them", want)
			}
			fill(raw, '0')
			if e == api.OK && ofConfig(x) != want {
				t.Fatalf("%.300q: what is unpacked hangs on them", want)
			}
		}
	}
}

// A list that ends in spare room isn't read on there.
func TestP10_3SpareRoomIsNoPart(t *testing.T) {
	raw := []byte(wholeBytes)
	for n := range raw {
		if c, e := cask.Unpack(raw[:n]); e != api.ErrForm || len(c.Types) != 0 {
			t.Fatalf("Unpack(%q): %d", raw[:n], e)
		}
	}
}

// What is unpacked may be changed by whom it is given to.
func TestP10_3AnswersArentKept(t *testing.T) {
	x, _ := cask.Unpack([]byte(wholeBytes))
	y, _ := cask.Unpack([]byte(wholeBytes))
	kids := x.Types[1].Rels[1].Expr.Kids
	fill(kids[0].Kids, node{})
	fill(kids, node{})
	fill(x.Types[1].Rels[1].Allow, api.Allow{})
	fill(x.Types[1].Rels, api.Rel{})
	fill(x.Types, api.Type{})
	z, e := cask.Unpack([]byte(wholeBytes))
	if e != api.OK || !cask.Same(y, whole()) || !cask.Same(z, whole()) {
		t.Error("an answer hangs on one of before")
	}
	// Lists that stand at several places in what is packed are unpacked as several.
	two := []node{this(), computed("a")}
	b, _ := cask.Pack(config(except(union(two...), meet(two...))))
	if x, _ := cask.Unpack(b); !apart(configPieces(x)) {
		t.Error("lists of one answer share memory")
	}
}

// R2 and R3: there is one error alone, and nothing beside it.
func TestP10ErrorsStandAlone(t *testing.T) {
	for _, c := range some() {
		b, e := cask.Pack(c)
		if e != api.OK && e != api.ErrForm || (e == api.OK) != (len(b) > 0) {
			t.Fatalf("R3: Pack: %.300q, %d", b, e)
		}
		x, f := cask.Unpack([]byte(ofConfig(c)))
		if f != e || f != api.OK && len(x.Types) > 0 {
			t.Fatalf("R3: Unpack: %.300q, %d", ofConfig(x), f)
		}
	}
	// What is read ahead of what is wrong isn't answered.
	none(t, "2;"+wholeBytes[2:]+"1;")
	c := whole()
	c.Types = append(c.Types, api.Type{Name: "type"})
	noPack(t, c)
	none(t, ofConfig(c))
}

// R5: lists that are nil and empty mean the same.
func TestP10EmptyListsMeanTheSame(t *testing.T) {
	none := config(this())
	var all []api.Config
	for _, kids := range [][]node{nil, {}, make([]node, 0, 3)} {
		for _, allow := range [][]api.Allow{nil, {}, make([]api.Allow, 0, 3)} {
			c := config(node{Kind: api.This, Kids: kids})
			c.Types[0].Rels[0].Allow = allow
			all = append(all, c)
		}
	}
	for _, c := range all {
		packs(t, c, ofConfig(none))
		for _, d := range all {
			if !cask.Same(c, d) {
				t.Error("R5: Same of empty lists: false")
			}
		}
	}
	for _, rels := range [][]api.Rel{nil, {}, make([]api.Rel, 0, 3)} {
		c := api.Config{Types: []api.Type{{Name: "a", Rels: rels}}}
		packs(t, c, "1;1;a,0;")
		if !cask.Same(c, api.Config{Types: []api.Type{{Name: "a"}}}) || cask.Same(c, none) {
			t.Error("R5: Same of a type without relations")
		}
	}
	for _, l := range [][]api.Type{nil, {}, make([]api.Type, 0, 3)} {
		packs(t, api.Config{Types: l}, "0;")
		if !cask.Same(api.Config{Types: l}, api.Config{}) || !cask.Same(api.Config{}, api.Config{Types: l}) || cask.Same(none, api.Config{Types: l}) {
			t.Error("R5: Same of no types")
		}
	}
	for _, b := range [][]byte{nil, {}, []byte("0;")[:0]} {
		if c, e := cask.Unpack(b); e != api.ErrForm || len(c.Types) != 0 {
			t.Errorf("R5: Unpack of no bytes: %d", e)
		}
	}
}

// R4 and R8: answers hang on arguments alone: not on calls ahead, nor on those
// that fail.
func TestP10AnswersHangOnArgumentsAlone(t *testing.T) {
	ask := func(c, d api.Config) string {
		b, e := cask.Pack(c)
		x, f := cask.Unpack([]byte(ofConfig(c)))
		told := string(b) + ofConfig(x)
		if e != api.OK || f != api.OK {
			told += "#"
		}
		if cask.Same(c, d) {
			told += "="
		}
		return told
	}
	l := some()
	first := make([]string, len(l))
	for k, c := range l {
		first[k] = ask(c, l[0])
	}
	for k := len(l) - 1; k >= 0; k-- {
		if ask(l[k], l[0]) != first[k] {
			t.Fatalf("R8: %.300q: another answer the second time", ofConfig(l[k]))
		}
	}
}

// line is a node so deep that calls within calls would need more stack than
// the test lets there be.
func line(depth int, last node) node {
	l := make([]node, depth)
	for k := range l {
		l[k] = node{Kind: api.Union, Kids: l[k+1 : min(k+2, depth)]}
	}
	l[depth-1] = last
	return l[0]
}

// shared is a node whose lists stand in each other twice: of far more nodes
// than can be gone through one by one.
func shared(last node) node {
	n := last
	for range 60 {
		n = union(n, n)
	}
	return n
}

// endless is a node whose list holds itself, behind so many others.
func endless(lead int, first node) node {
	l := []node{first, {Kind: api.Union}}
	l[1].Kids = l
	n := l[1]
	for range lead {
		n = union(first, n)
	}
	return n
}

// R7: Pack and Same take what isn't good, too: of any size and depth.
func TestP9EveryCallEnds(t *testing.T) {
	defer debug.SetMaxStack(debug.SetMaxStack(1 << 22))
	const most = 1 << 18
	great := func() []node {
		return []node{
			line(most, this()), line(most, computed("a")), line(most-1, this()), wide(most), wide(most - 1),
			shared(this()), shared(computed("a")), endless(0, this()), endless(0, computed("a")),
			computed(strings.Repeat("a", most)), {Kind: -1 << 63, A: strings.Repeat("\xff", most)},
		}
	}
	others := great()
	for k, x := range great() {
		noPack(t, config(x))
		noPack(t, api.Config{Types: append(whole().Types, config(except(this(), x)).Types...)})
		for j, y := range others {
			if cask.Same(config(x), config(y)) != (k == j) {
				t.Errorf("Same of nodes %d and %d isn't %v", k, j, k == j)
			}
		}
	}
	// One that holds itself is the same, part by part, as one that does behind others.
	for lead := range 5 {
		if !cask.Same(config(endless(lead, this())), config(endless(0, this()))) || cask.Same(config(endless(lead, this())), config(endless(1, computed("a")))) {
			t.Error("Same of nodes that hold themselves")
		}
	}
}

// A list's number may be any, and nodes be told far deeper, or far more, than
// there may be.
func TestP9AnyBytesEnd(t *testing.T) {
	defer debug.SetMaxStack(debug.SetMaxStack(1 << 22))
	const most = 1 << 18
	deep := rel("0;", strings.Repeat("4;0;,0;,1;", most))
	for _, s := range []string{
		deep, deep + "1;0;,0;,0;", rel("0;", strings.Repeat("4;0;,0;,2;1;0;,0;,0;", most)+"1;0;,0;,0;"),
		rel("0;", "4;0;,0;,262143;"+strings.Repeat("1;0;,0;,0;", most-1)),
		rel("0;", "4;0;,0;,25;"+strings.Repeat("1;0;,0;,0;", 25)),
		strings.Repeat("99999999999999999;", most), strings.Repeat("1;1;a,", most), strings.Repeat("1;", most), strings.Repeat("0;", most), strings.Repeat(";", most), strings.Repeat("9", most), strings.Repeat("\xff", most),
		"1;262144;" + strings.Repeat("a", most) + ",0;", "1;99999999999999999;" + strings.Repeat("a", most), "1;1;a,99999999999999999;" + strings.Repeat("1;a,0;1;0;,0;,0;", most),
		"99999999999999999;" + strings.Repeat("1;a,0;", most), "99999999999999999;" + strings.Repeat("1;A,0;", most),
		rel("99999999999999999;"+strings.Repeat("1;a,0;,-", most), ""),
	} {
		none(t, s)
	}
	for a := range 256 {
		for b := range 256 {
			justSo(t, string([]byte{byte(a), byte(b)}))
		}
	}
}

// There is no limit to how much a well made configuration has, but of nodes.
func TestP10_2GreatConfigurations(t *testing.T) {
	const most = 1 << 15
	c := api.Config{Types: slices.Repeat([]api.Type{{Name: "a"}}, most)}
	c.Types = append(c.Types, api.Type{Name: "b", Rels: slices.Repeat(config(union(this(), computed("c"))).Types[0].Rels, most)})
	c.Types[most].Rels[5].Allow = slices.Repeat([]api.Allow{{Type: "a"}, {Type: "b", Wild: true}}, most)
	b, e := cask.Pack(c)
	if e != api.OK || string(b) != ofConfig(c) {
		t.Fatalf("Pack of a great one: %d, of %d bytes", e, len(b))
	}
	x, e := cask.Unpack(b)
	if e != api.OK || !cask.Same(x, c) {
		t.Fatalf("Unpack of a great one: %d, of %d types", e, len(x.Types))
	}
	x.Types[most].Rels[5].Allow[2*most-1].Wild = false
	if cask.Same(x, c) {
		t.Error("Same of great ones that aren't: true")
	}
}
