package lint_test

import (
	"slices"
	"strings"
	"testing"

	"stile/api"
	"stile/lint"
)

// finds: is this relation found?
func finds(t *testing.T, c api.Config, typ, relation string, want api.Rel) {
	t.Helper()
	if r, e := lint.Find(c, typ, relation); e != api.OK || ofRel(r) != ofRel(want) {
		t.Errorf("Find %q, %q: %s, %d, want %s", typ, relation, ofRel(r), e, ofRel(want))
	}
	var types []string
	for _, a := range want.Allow {
		if !slices.Contains(types, a.Type) {
			types = append(types, a.Type)
		}
	}
	if l, e := lint.Types(c, typ, relation); e != api.OK || !slices.Equal(l, types) {
		t.Errorf("Types %q, %q: %q, %d, want %q", typ, relation, l, e, types)
	}
}

// misses: is there no such relation?
func misses(t *testing.T, c api.Config, typ, relation string) {
	t.Helper()
	if r, e := lint.Find(c, typ, relation); e != api.ErrName || ofRel(r) != ofRel(api.Rel{}) {
		t.Errorf("Find %q, %q: %s, %d, want ErrName", typ, relation, ofRel(r), e)
	}
	if l, e := lint.Types(c, typ, relation); e != api.ErrName || len(l) != 0 {
		t.Errorf("Types %q, %q: %q, %d, want ErrName", typ, relation, l, e)
	}
}

func TestP9_1FindAndTypes(t *testing.T) {
	c := parsed(t, user+`type g { rel m [user, g#m] = this; }
		type d { rel m [user, g, d#v, user:*, g#m, d] = this; rel v = m - (p->v | p->m & v); rel p [d, d#p, d:*] = this; }`)
	for _, typ := range c.Types {
		for _, r := range typ.Rels {
			finds(t, c, typ.Name, r.Name, r)
		}
	}
	for _, names := range [][2]string{
		{"user", "m"}, {"g", "v"}, {"g", "p"}, {"d", "g"}, {"d", "d"}, {"x", "m"}, {"", "m"}, {"d", ""}, {"", ""},
		{"D", "m"}, {"d", "M"}, {"d", "m "}, {"d", "mm"}, {"d\x00", "m"}, {"d", "m\xff"}, {"d#m", ""}, {"m", "d"}, {strings.Repeat("d", 1<<20), "m"},
	} {
		misses(t, c, names[0], names[1])
	}
	misses(t, api.Config{}, "d", "m")
	misses(t, api.Config{}, "", "")
	if l, e := lint.Types(c, "d", "m"); e != api.OK || strings.Join(l, " ") != "user g d" {
		t.Errorf("Types: %q, %d", l, e)
	}
	if l, e := lint.Types(c, "d", "v"); e != api.OK || len(l) != 0 {
		t.Errorf("Types of what allows nothing: %q, %d", l, e)
	}
	m := newMaker(91)
	for range 500 {
		c := m.faultless()
		for _, typ := range c.Types {
			for _, r := range typ.Rels {
				finds(t, c, typ.Name, r.Name, r)
			}
			misses(t, c, typ.Name, "z")
			misses(t, c, "z", "p")
		}
	}
}

// R7: a configuration may be any: it is told of as it stands.
func TestP9_1FindAndTypesOfAny(t *testing.T) {
	rel := func(name string, expr node, allowed ...string) api.Rel {
		r := api.Rel{Name: name, Expr: expr}
		for _, s := range allowed {
			r.Allow = append(r.Allow, api.Allow{Type: s})
		}
		return r
	}
	bad := node{Kind: -7, A: "\xff", B: "b b", Kids: []node{{}, {Kind: api.This, A: "x", Kids: []node{{}, {Kind: 99}}}}}
	c := api.Config{Types: []api.Type{
		{Name: "a"},
		{Name: "a", Rels: []api.Rel{rel("q", computed("nowhere"), "x"), rel("r", bad, "y", "y", "x", "y"), rel("r", this(), "z")}},
		{Name: "b", Rels: []api.Rel{rel("s", this(), "w")}},
		{Name: "a", Rels: []api.Rel{rel("s", bad), rel("r", this(), "v"), rel("", bad, "", "\xff", "", "this")}},
		{Name: "", Rels: []api.Rel{rel("", node{}, "u"), rel("r", node{}, "")}},
		{Name: "this \xff", Rels: []api.Rel{rel("\x00", union(bad, bad), "a")}},
	}}
	c.Types[1].Rels[1].Allow[1] = api.Allow{Type: "y", Relation: "\xff", Wild: true}
	a, b := c.Types[1].Rels, c.Types[3].Rels
	finds(t, c, "a", "q", a[0])
	finds(t, c, "a", "r", a[1]) // the first
	finds(t, c, "a", "s", b[0]) // of the second type of that name
	finds(t, c, "a", "", b[2])
	finds(t, c, "b", "s", c.Types[2].Rels[0])
	finds(t, c, "", "", c.Types[4].Rels[0])
	finds(t, c, "", "r", c.Types[4].Rels[1])
	finds(t, c, "this \xff", "\x00", c.Types[5].Rels[0])
	misses(t, c, "b", "r")
	misses(t, c, "", "s")
	misses(t, c, "nowhere", "r")
	if l, e := lint.Types(c, "a", "r"); e != api.OK || strings.Join(l, " ") != "y x" {
		t.Errorf("Types: %q, %d", l, e)
	}
	// More than may be, too.
	var many api.Config
	for k := range 100 {
		typ := api.Type{Name: strings.Repeat("a", k)}
		for j := range 100 {
			typ.Rels = append(typ.Rels, rel(strings.Repeat("r", j), union(), strings.Repeat("u", k*j)))
		}
		many.Types = append(many.Types, typ)
	}
	finds(t, many, strings.Repeat("a", 99), strings.Repeat("r", 99), many.Types[99].Rels[99])
	finds(t, many, "", "", many.Types[0].Rels[0])
	misses(t, many, "a", strings.Repeat("r", 100))
}
