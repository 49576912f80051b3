package grammar_test

import (
	"slices"
	"strings"
	"testing"
	"unsafe"

	"stile/api"
	"stile/grammar"
	"stile/sigil"
)

// memory is a text's, or a list's with its spare room.
type memory struct {
	at   uintptr
	size uintptr
}

func ofText(s string) memory {
	return memory{uintptr(unsafe.Pointer(unsafe.StringData(s))), uintptr(len(s))}
}

func ofList[T any](l []T) memory {
	var one T
	return memory{uintptr(unsafe.Pointer(unsafe.SliceData(l))), uintptr(cap(l)) * unsafe.Sizeof(one)}
}

// nodeMemory is all memory of a node.
func nodeMemory(n api.Node) []memory {
	all := []memory{ofText(n.A), ofText(n.B), ofList(n.Kids)}
	for _, k := range n.Kids {
		all = append(all, nodeMemory(k)...)
	}
	return all
}

// configMemory is all memory of a configuration.
func configMemory(c api.Config) []memory {
	all := []memory{ofList(c.Types)}
	for _, t := range c.Types {
		all = append(all, ofText(t.Name), ofList(t.Rels))
		for _, r := range t.Rels {
			all = append(all, ofText(r.Name), ofList(r.Allow))
			for _, a := range r.Allow {
				all = append(all, ofText(a.Type), ofText(a.Relation))
			}
			all = append(all, nodeMemory(r.Expr)...)
		}
	}
	return all
}

func overlap(a, b memory) bool {
	return a.size > 0 && b.size > 0 && a.at < b.at+b.size && b.at < a.at+a.size
}

// apart: does none share a byte with another?
func apart(all []memory) bool {
	for k, a := range all {
		for _, b := range all[:k] {
			if overlap(a, b) {
				return false
			}
		}
	}
	return true
}

// spoilNode changes all lists of a node, with their room.
func spoilNode(n api.Node) {
	l := n.Kids[:cap(n.Kids)]
	for k := range l {
		spoilNode(l[k])
		l[k] = api.Node{Kind: 9, A: "spoilt"}
	}
}

// spoil changes all lists of a configuration, with their room.
func spoil(c api.Config) {
	types := c.Types[:cap(c.Types)]
	for k := range types {
		rels := types[k].Rels[:cap(types[k].Rels)]
		for j := range rels {
			spoilNode(rels[j].Expr)
			allowed := rels[j].Allow[:cap(rels[j].Allow)]
			for i := range allowed {
				allowed[i] = api.Allow{Type: "spoilt", Relation: "spoilt", Wild: true}
			}
			rels[j] = api.Rel{Name: "spoilt"}
		}
		types[k] = api.Type{Name: "spoilt"}
	}
}

// handed is a text whose bytes the test may look at, and change; what stands
// around it would be read, too.
func handed(s string) (string, []byte) {
	raw := append([]byte("type"), s...)
	raw = append(raw, "|rel)"...)
	if s == "" {
		return "", raw
	}
	return unsafe.String(&raw[4], len(s)), raw
}

// some are texts of both kinds, right and wrong ones.
func some() []string {
	return append(slices.Concat(wholes["CONFIG"], wholes["UNION"]),
		"", " ", "a-b-c", "type", "type a {", "((((((((((", "A", "type A {}", "\xff", "a\xff", strings.Repeat(" ", 3001), "a|a|a|a|a", "aa|aa|aa->aa|(aa|aa|aa)&aa",
		"type a {} type a {} type a {} type a {} type a {}", "type a{rel a[a,a,a,a#a,a:*]=a;rel a=a|a|a|a|a&a&a;rel a=a->a-(a|a);}", strings.Repeat("type aa { rel aa = aa; }", 9),
	)
}

func TestP7_3WhatIsHandedInStaysAndIsntKept(t *testing.T) {
	for _, s := range some() {
		own, raw := handed(s)
		c, cp, ce := grammar.Parse(own)
		n, np, ne := grammar.Expr(own)
		if string(raw) != "type"+s+"|rel)" {
			t.Errorf("%.40q: it is changed, or what stands around it", s)
		}
		wantC, wantCP, wantCE := grammar.Parse(s)
		wantN, wantNP, wantNE := grammar.Expr(s)
		for k := range raw {
			raw[k] = 'x'
		}
		if ofConfig(c) != ofConfig(wantC) || cp != wantCP || ce != wantCE {
			t.Errorf("%.40q: its configuration hangs on what was handed in", s)
		}
		if ofNode(n) != ofNode(wantN) || np != wantNP || ne != wantNE {
			t.Errorf("%.40q: its expression hangs on what was handed in", s)
		}
	}
}

func TestP7_3AnswersAreNewMemory(t *testing.T) {
	for _, s := range some() {
		c, _, _ := grammar.Parse(s)
		otherC, _, _ := grammar.Parse(s)
		n, _, _ := grammar.Expr(s)
		otherN, _, _ := grammar.Expr(s)
		all := slices.Concat(configMemory(c), configMemory(otherC), nodeMemory(n), nodeMemory(otherN))
		if !apart(all) {
			t.Errorf("%.40q: two answers, or two parts of one, share memory", s)
		}
		for _, m := range all {
			if overlap(m, ofText(s)) {
				t.Errorf("%.40q: an answer shares memory with it", s)
			}
		}
		spoil(c)
		spoilNode(n)
		thirdC, _, _ := grammar.Parse(s)
		thirdN, _, _ := grammar.Expr(s)
		if ofConfig(thirdC) != ofConfig(otherC) || ofNode(thirdN) != ofNode(otherN) {
			t.Errorf("%.40q: an answer hangs on one ahead", s)
		}
	}
}

func TestP9EveryCallEnds(t *testing.T) {
	calls := func(s string) {
		grammar.Parse(s)
		grammar.Expr(s)
		grammar.Parse("type t { rel r [" + s)
		grammar.Parse("type t { rel r = " + s)
	}
	for a := range 256 {
		for b := range 256 {
			calls(string([]byte{byte(a), byte(b)}))
		}
	}
	for _, s := range append(laidOne(), " ", "\n", "\u3000", "\u00e4", "\xff", "//", "a|", "a&", "a-", "a->", "(a|", ")(", "type a{}", "type a{", "rel a=", "rel a=b;", "a,", "a#b,", "a:*,", "((a)-") {
		calls(strings.Repeat(s, 1<<18))
		calls(strings.Repeat(s+" ", 1400/len(s)))
		calls(strings.Repeat("(", 8) + strings.Repeat(s+" ", 1400/len(s)))
	}
}

// R2: the first error is told. R3: nothing stands beside it but its place.
func TestP10ErrorsStandAlone(t *testing.T) {
	full := strings.Repeat(" ", 3000)
	for _, part := range []string{"CONFIG", "UNION"} {
		// Chapter 6's stand ahead of this chapter's, wherever they are.
		for _, wrong := range []string{"a b", "type a { rel b = c - d - e; }", "((((((((((", "a|", "type", ")"} {
			refused(t, part, wrong+" A \xff"+full, api.ErrText, sigil.Place{})
			refused(t, part, wrong+" A"+full, api.ErrFull, sigil.Place{})
			refused(t, part, wrong+"\n A", api.ErrLex, at(2, 2))
			refused(t, part, "A"+wrong, api.ErrLex, at(1, 1))
		}
	}
	for _, s := range some() {
		for part := range wholes {
			got, p, e := asked(part, s)
			switch e {
			case api.OK:
				if p != (sigil.Place{}) {
					t.Errorf("R3: %s of %.40q: %v beside OK", part, s, p)
				}
			case api.ErrText, api.ErrFull:
				if got != nothing(part) || p != (sigil.Place{}) {
					t.Errorf("R3: %s of %.40q: %s, %v, %d", part, s, got, p, e)
				}
			case api.ErrLex, api.ErrSyntax, api.ErrDeep:
				if got != nothing(part) || p.Line < 1 || p.Column < 1 {
					t.Errorf("R3: %s of %.40q: %s, %v, %d", part, s, got, p, e)
				}
			default:
				t.Errorf("%s of %.40q: %d, which the chapter doesn't name", part, s, e)
			}
		}
	}
	// What is read ahead of the wrong token isn't answered.
	for _, s := range []string{"type a { rel b [c] = this; } x", "type a { rel b [c] = this; rel", "type a {} type b {} type c {"} {
		if c, _, e := grammar.Parse(s); e != api.ErrSyntax || len(c.Types) != 0 {
			t.Errorf("R3: Parse(%q): %s, %d", s, ofConfig(c), e)
		}
	}
	for _, s := range []string{"a|b|c)", "a->b c", "a-b-c", "this this", "a&b;"} {
		if n, _, e := grammar.Expr(s); e != api.ErrSyntax || n.Kind != 0 || n.A != "" || n.B != "" || len(n.Kids) != 0 {
			t.Errorf("R3: Expr(%q): %s, %d", s, ofNode(n), e)
		}
	}
}

// R3 and R5: what there is none of is an empty list, which may be nil.
func TestP10EmptyListsMeanTheSame(t *testing.T) {
	if c, _, e := grammar.Parse(""); len(c.Types) != 0 || e != api.OK {
		t.Errorf("R5: Parse of nothing: %s, %d", ofConfig(c), e)
	}
	c, _, e := grammar.Parse("type a {} type b { rel c = d->e; }")
	if e != api.OK || len(c.Types) != 2 || len(c.Types[0].Rels) != 0 || len(c.Types[1].Rels) != 1 {
		t.Fatalf("R5: %s, %d", ofConfig(c), e)
	}
	if r := c.Types[1].Rels[0]; len(r.Allow) != 0 || len(r.Expr.Kids) != 0 {
		t.Errorf("R5: %s", ofConfig(c))
	}
	for _, s := range []string{"this", "a", "a->b", "((this))"} {
		if n, _, e := grammar.Expr(s); e != api.OK || len(n.Kids) != 0 {
			t.Errorf("R5: Expr(%q): %s, %d", s, ofNode(n), e)
		}
	}
}

// R4 and R8: answers hang on arguments alone: not on calls ahead, nor on those
// that fail.
func TestP10AnswersHangOnArgumentsAlone(t *testing.T) {
	type answer struct {
		read  string
		place sigil.Place
		e     api.Errno
	}
	ask := func(part, s string) answer {
		read, p, e := asked(part, s)
		return answer{read, p, e}
	}
	l := some()
	first := map[string][]answer{}
	for _, s := range l {
		for part := range wholes {
			first[part] = append(first[part], ask(part, s))
		}
	}
	for k := len(l) - 1; k >= 0; k-- {
		for part := range wholes {
			own, _ := handed(l[k])
			if ask(part, own) != first[part][k] {
				t.Errorf("R8: %s of %.40q: another answer the second time", part, l[k])
			}
		}
	}
}
