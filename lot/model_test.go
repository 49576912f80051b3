package lot_test

import (
	"fmt"
	"math/rand"
	"slices"
	"testing"

	"stile/api"
	"stile/bond"
	"stile/lint"
	"stile/lot"
	"stile/who"
)

// A model of the chapter's words, told otherwise than the program does it: all
// that a configuration has and allows stands in a map, by texts.

const (
	theType = iota + 1
	theRelation
	theKind
)

func model(c api.Config) map[string]int {
	m := map[string]int{}
	for _, t := range c.Types {
		m[t.Name] = theType
		for _, r := range t.Rels {
			m[t.Name+"#"+r.Name] = theRelation
			for _, a := range r.Allow {
				kind := a.Type
				if a.Relation != "" {
					kind += "#" + a.Relation
				}
				if a.Wild {
					kind += ":*"
				}
				m[t.Name+"#"+r.Name+"@"+kind] = theKind
				m[t.Name+"#"+r.Name+"@"] = theKind
			}
		}
	}
	return m
}

// kindOf is the kind of subjects of which a good one is, as a text.
func kindOf(s api.Subject) string {
	switch {
	case s.Id == "*":
		return s.Type + ":*"
	case s.Relation != "":
		return s.Type + "#" + s.Relation
	}
	return s.Type
}

func modelFit(m map[string]int, x api.Tuple) api.Errno {
	at := x.Type + "#" + x.Relation
	switch {
	case m[at] != theRelation || m[x.Subject.Type] != theType:
		return api.ErrName
	case m[at+"@"+kindOf(x.Subject)] != theKind:
		return api.ErrKind
	}
	return api.OK
}

func modelKnown(m map[string]int, x api.Tuple) api.Errno {
	s := x.Subject
	switch {
	case s.Id == "*":
		return api.ErrForm
	case m[x.Type+"#"+x.Relation] != theRelation || m[s.Type] != theType:
		return api.ErrName
	case s.Relation != "" && m[s.Type+"#"+s.Relation] != theRelation:
		return api.ErrName
	}
	return api.OK
}

// A maker makes things by numbers that are the same each time.
type maker struct{ *rand.Rand }

func newMaker(seed int64) maker { return maker{rand.New(rand.NewSource(seed))} }

func one[T any](m maker, l []T) T { return l[m.Intn(len(l))] }

// names are those of types and relations both; the last ones are of none.
var names = []string{"a", "b", "c", "aa", "ab", "x", "none"}

func (m maker) config() api.Config {
	var c api.Config
	for k := range m.Intn(6) {
		t := api.Type{Name: names[k]}
		for j := range m.Intn(6) {
			t.Rels = append(t.Rels, api.Rel{Name: names[5-j]})
		}
		c.Types = append(c.Types, t)
	}
	for k, t := range c.Types {
		for j := range t.Rels {
			c.Types[k].Rels[j] = m.allowing(c, t.Rels[j])
		}
	}
	return c
}

// allowing is a relation that allows some of what there is, and whose
// expression asks for it.
func (m maker) allowing(c api.Config, r api.Rel) api.Rel {
	for range m.Intn(7) {
		a, ok := m.kind(c)
		if ok && !slices.Contains(r.Allow, a) {
			r.Allow = append(r.Allow, a)
		}
	}
	r.Expr = api.Node{Kind: api.This}
	if len(r.Allow) == 0 {
		r.Expr = api.Node{Kind: api.Computed, A: r.Name}
	}
	return r
}

// kind is one of the kinds of subjects that may be allowed.
func (m maker) kind(c api.Config) (api.Allow, bool) {
	t := one(m, c.Types)
	switch m.Intn(3) {
	case 0:
		return api.Allow{Type: t.Name}, true
	case 1:
		return api.Allow{Type: t.Name, Wild: true}, true
	}
	if len(t.Rels) == 0 {
		return api.Allow{}, false
	}
	return api.Allow{Type: t.Name, Relation: one(m, t.Rels).Name}, true
}

// tuple is any good one of the names.
func (m maker) tuple() api.Tuple {
	x := tuple(one(m, names), one(m, []string{"a", "b"}), one(m, names), one(m, names), "a", "")
	switch m.Intn(3) {
	case 0:
		x.Subject.Id = "*"
	case 1:
		x.Subject.Relation = one(m, names)
	}
	return x
}

// more is a configuration that allows all that c does, and more; its types and
// relations may stand in another order.
func (m maker) more(c api.Config) api.Config {
	var d api.Config
	for _, t := range c.Types {
		t.Rels = slices.Clone(t.Rels)
		for k, r := range t.Rels {
			r.Allow = slices.Clone(r.Allow)
			t.Rels[k] = m.allowing(c, r)
			if len(t.Rels[k].Allow) > api.MaxAllowed {
				t.Rels[k].Allow = r.Allow
			}
		}
		if len(t.Rels) < api.MaxRels && m.Intn(2) == 0 {
			t.Rels = append(t.Rels, m.allowing(c, api.Rel{Name: "fresh"}))
		}
		m.Shuffle(len(t.Rels), func(i, j int) { t.Rels[i], t.Rels[j] = t.Rels[j], t.Rels[i] })
		d.Types = append(d.Types, t)
	}
	if len(d.Types) < api.MaxTypes {
		d.Types = append(d.Types, api.Type{Name: "fresh"})
	}
	m.Shuffle(len(d.Types), func(i, j int) { d.Types[i], d.Types[j] = d.Types[j], d.Types[i] })
	return d
}

func isSound(t *testing.T, c api.Config) {
	t.Helper()
	if _, at, e := lint.Check(c); e != api.OK {
		t.Fatalf("not sound: %v: %d at %v", c, e, at)
	}
}

func TestP11_1AnswersAreTheWords(t *testing.T) {
	m := newMaker(11)
	seen := map[string]int{}
	for range 4000 {
		c := m.config()
		isSound(t, c)
		words := model(c)
		first := -1
		var l []api.Tuple
		for k := range 40 {
			x := m.tuple()
			fit, known := modelFit(words, x), modelKnown(words, x)
			if e := lot.Fit(c, x); e != fit {
				t.Fatalf("P11.1: %v: Fit(%s): %d, want %d", c, bond.Text(x), e, fit)
			}
			if e := lot.Known(c, api.Object{Type: x.Type, Id: x.Id}, x.Relation, x.Subject); e != known {
				t.Fatalf("P11.1: %v: Known(%s): %d, want %d", c, bond.Text(x), e, known)
			}
			if got, want := lot.Direct(c, x.Type, x.Relation), words[x.Type+"#"+x.Relation+"@"] == theKind; got != want {
				t.Fatalf("P11.1: %v: Direct(%q, %q): %v", c, x.Type, x.Relation, got)
			}
			if first < 0 && fit != api.OK {
				first = k
			}
			l = append(l, x)
			seen[fmt.Sprint("Fit ", fit)]++
			seen[fmt.Sprint("Known ", known)]++
		}
		if k := lot.Unfit(c, l); k != first {
			t.Fatalf("P11.1: %v: Unfit(%q): %d, want %d", c, l, k, first)
		}
		fit := slices.DeleteFunc(slices.Clone(l), func(x api.Tuple) bool { return modelFit(words, x) != api.OK })
		if k := lot.Unfit(c, fit); k != -1 {
			t.Fatalf("P11.1: %v: Unfit(%q): %d, want -1", c, fit, k)
		}
	}
	for _, kind := range []string{"Fit 0", "Fit 13", "Fit 15", "Known 0", "Known 2", "Known 13"} {
		if seen[kind] < 1000 {
			t.Errorf("of %s only %d", kind, seen[kind])
		}
	}
}

// isKnown: P11.2: of what fits the question is known, but that all of a
// type is no subject to ask for.
func isKnown(t *testing.T, c api.Config, x api.Tuple) {
	t.Helper()
	o := api.Object{Type: x.Type, Id: x.Id}
	want := api.OK
	if who.All(x.Subject) {
		want = api.ErrForm
	}
	if e := lot.Known(c, o, x.Relation, x.Subject); e != want {
		t.Fatalf("P11.2: Known(%s), which fits: %d, want %d", bond.Text(x), e, want)
	}
	// Of all of a type each one may be asked for.
	if e := lot.Known(c, o, x.Relation, api.Subject{Type: x.Subject.Type, Id: "b"}); e != api.OK {
		t.Fatalf("P11.2: Known(%s), of one: %d", bond.Text(x), e)
	}
}

func TestP11_2WhatFitsIsKnown(t *testing.T) {
	m := newMaker(112)
	kinds := map[bool]int{}
	for range 3000 {
		c := m.config()
		isSound(t, c)
		for range 40 {
			if x := m.tuple(); lot.Fit(c, x) == api.OK {
				isKnown(t, c, x)
				kinds[who.All(x.Subject)]++
			}
		}
	}
	if kinds[true] < 500 || kinds[false] < 500 {
		t.Errorf("only %v fit", kinds)
	}
}

func TestP11_2WhatFitsFitsWhereMoreIsAllowed(t *testing.T) {
	m := newMaker(113)
	old, fresh := 0, 0
	for range 3000 {
		c := m.config()
		if len(c.Types) == 0 {
			continue
		}
		d := m.more(c)
		isSound(t, c)
		isSound(t, d)
		for range 40 {
			x := m.tuple()
			inC, inD := lot.Fit(c, x) == api.OK, lot.Fit(d, x) == api.OK
			if inC && !inD {
				t.Fatalf("P11.2: Fit(%s) in %v, not in %v", bond.Text(x), c, d)
			}
			if inC {
				old++
			} else if inD {
				fresh++
			}
		}
	}
	if old < 1000 || fresh < 100 {
		t.Errorf("only %d fit in both, %d in the one that allows more", old, fresh)
	}
}
