package lint_test

import (
	"fmt"
	"slices"
	"strings"
	"testing"

	"stile/api"
	"stile/lint"
)

const user = "type user {} "

// says: does Check answer this, of a text's configuration?
func says(t *testing.T, s, want string) {
	t.Helper()
	if got := checked(parsed(t, s)); got != want {
		t.Errorf("Check(%s): %s, want %s", s, got, want)
	}
}

// inD is the text of a type d of these relations, behind some others.
func inD(rels string) string {
	return user + "type g { rel m [user, g#m] = this; rel o = m; rel x [g, g#m] = this; } type d { " + rels + " }"
}

// ofD is what told says of a sound one, d's relations behind the others.
func ofD(items string) string {
	return strings.TrimSuffix("g#m 0, g#o 0, g#x 0, "+items, ", ")
}

func TestP9_1Examples(t *testing.T) {
	says(t, user+"type d { rel a [user] = this - b; rel b = a; }", wrong(api.ErrCycle, "d", "a"))
	says(t, user+"type d { rel a = b; rel b [user] = this; }", "d#a 0, d#b 0")
}

func TestP9_1Sound(t *testing.T) {
	says(t, "", "")
	says(t, user, "")
	says(t, "type a {} type b {}", "")
	// All relations stand in order, names alike in other types.
	says(t, user+"type b { rel z [user] = this; rel a [user] = this; } type a { rel z [b] = this; rel a [b#z] = this; }", "b#z 0, b#a 0, a#z 0, a#a 0")
	for rels, want := range map[string]string{
		"": "",
		"rel a [user] = this; rel b [user:*] = this; rel c [user, user:*, g#m] = this;": "d#a 0, d#b 0, d#c 0",
		"rel a [d] = this; rel b [d#b, d#a] = this;":                                    "d#a 0, d#b 0",
		"rel a = b; rel b = a;":                              "d#a 0, d#b 0",
		"rel a = a;":                                         "d#a 0",
		"rel a = a & a | b; rel b = a | b;":                  "d#a 0, d#b 0",
		"rel a [user] = b - this; rel b [user] = this;":      "d#a 0, d#b 0",
		"rel a [user, g#m] = b - this; rel b [user] = this;": "d#a 1, d#b 0",
		"rel a [user, d#b] = this | c - this; rel b [user] = this; rel c [user] = this;":                  "d#a 1, d#b 0, d#c 0",
		"rel a [user] = this - b; rel b [user] = this - c; rel c [user] = this - e; rel e [user] = this;": "d#a 3, d#b 2, d#c 1, d#e 0",
		"rel e [user] = this; rel c [user] = this - e; rel b [user] = this - c; rel a [user] = this - b;": "d#e 0, d#c 1, d#b 2, d#a 3",
		// An even number of second parts is even.
		"rel a = b - (b - b); rel b [user] = this;":                                                     "d#a 1, d#b 0",
		"rel a = b - (c - a); rel b [user] = this; rel c [user] = this;":                                "d#a 1, d#b 0, d#c 0",
		"rel a = b - (b - (b - c)); rel b = b; rel c = b - b;":                                          "d#a 2, d#b 0, d#c 1",
		"rel a = b - (b - (b - (b - c))); rel b = b; rel c = b - (b - b);":                              "d#a 1, d#b 0, d#c 1",
		"rel a = c | c - (c - b); rel b = c - c; rel c = c & c;":                                        "d#a 1, d#b 1, d#c 0",
		"rel a [user, d#b] = b - (b - this); rel b [user] = this - (c | (c & c)); rel c [user] = this;": "d#a 2, d#b 1, d#c 0",
		"rel a [user, d#a] = this - (b - this); rel b [user] = this;":                                   "d#a 1, d#b 0",
		// The greatest number of all ways, over even steps too.
		"rel a = b | c; rel b = e - e; rel c = b & f; rel e [user] = this; rel f = e - b;": "d#a 2, d#b 1, d#c 2, d#e 0, d#f 2",
		"rel a = b; rel b = c; rel c = a | e - f; rel e [user] = this; rel f = e - e;":     "d#a 2, d#b 2, d#c 2, d#e 0, d#f 1",
		// Arrows lead to each type that is allowed, not to the relation by which they go.
		"rel p [d, g] = this; rel m = p->m;":                                                                   "d#p 0, d#m 0",
		"rel p [g] = this; rel v = p->o - p->m;":                                                               "d#p 0, d#v 1",
		"rel p [d] = this; rel v = p->p - p->p;":                                                               "d#p 0, d#v 1",
		"rel p [g, d] = this; rel o = m - p->m; rel m = p->m;":                                                 "d#p 0, d#o 1, d#m 0",
		"rel q = p->q | r; rel p [d] = this; rel r [d, d#s] = this; rel s [user] = this - p->t; rel t = p->p;": "d#q 1, d#p 0, d#r 1, d#s 1, d#t 0",
		"rel p [d] = this; rel v = p->w - (p->w - p->v); rel w [user] = this;":                                 "d#p 0, d#v 1, d#w 0",
		// What is allowed of another type, behind or ahead.
		"rel a [g#x] = this; rel b [user, d#a] = this; rel c = a - b;": "d#a 0, d#b 0, d#c 1",
	} {
		says(t, inD(rels), ofD(want))
	}
	says(t, user+"type a { rel r [b#r] = this; } type b { rel r [user] = this - s; rel s [user, c#t] = this; } type c { rel t [user] = this - u; rel u [user:*] = this; }", "a#r 2, b#r 2, b#s 1, c#t 1, c#u 0")
	says(t, user+"type a { rel p [b, c] = this; rel v = p->v; } type b { rel v [user] = this; } type c { rel w [user] = this; rel v = w - w; }", "a#p 0, a#v 1, b#v 0, c#w 0, c#v 1")
}

func TestP9_1Cycles(t *testing.T) {
	for rels, at := range map[string]string{
		"rel a [user] = this - a;":                                                              "a",
		"rel a [user] = this - (a | b); rel b [user] = this;":                                   "a",
		"rel a [user] = this - (this - (this - a));":                                            "a",
		"rel a = a - (a - a) | b - a; rel b = b;":                                               "a",
		"rel c [user] = this; rel b = a; rel a = c - b;":                                        "b",
		"rel c [user] = this; rel a = c - b; rel b = a;":                                        "a",
		"rel c = a; rel a [user] = this - b; rel b = a;":                                        "a", // c hangs on them, not on itself
		"rel c = a | f; rel f = c; rel a [user] = this - b; rel b = a;":                         "a",
		"rel c = a - c2; rel c2 [user] = this; rel a = b; rel b = e; rel e = f; rel f = b - a;": "a",
		// By a way that goes through a relation twice.
		"rel a = b; rel b = a | c; rel c [user] = this - b;":     "a",
		"rel a = b; rel b = a | b - b;":                          "a",
		"rel z = z; rel a = b; rel b = c; rel c = b - b | a;":    "a",
		"rel z = a - y; rel y = y; rel a = a | a - (y - a | a);": "a",
		// By what is allowed.
		"rel a [user, d#a] = c - this; rel c [user] = this;":                     "a",
		"rel a [d#b] = this; rel b = c - a; rel c [user] = this;":                "a",
		"rel b [user] = this - a; rel a [d, d#b] = this;":                        "b",
		"rel a [d#b] = c - this; rel b [user, d#a] = this; rel c [user] = this;": "a",
		// By arrows.
		"rel p [d] = this; rel q [user] = this; rel v = q - p->v;":                          "v",
		"rel p [d] = this; rel q [user] = this; rel v = q - p->w; rel w = p->v;":            "v",
		"rel p [g, d] = this; rel q [user] = this; rel m = q - p->m;":                       "m",
		"rel p [d] = this; rel q [d, d#v] = this; rel v = p->q - (p->p & p->q); rel w = v;": "q",
	} {
		says(t, inD(rels), wrong(api.ErrCycle, "d", at))
	}
	// Over types; the first one, in order, may be of another type than the odd step.
	says(t, user+"type a { rel p [b] = this; rel v = p->v; } type b { rel u [user] = this; rel v = u - w; rel w [a#v] = this; }", wrong(api.ErrCycle, "a", "v"))
	says(t, user+"type b { rel u [user] = this; rel v = u - w; rel w [a#v] = this; } type a { rel p [b] = this; rel v = p->v; }", wrong(api.ErrCycle, "b", "v"))
	// Cycles are looked for behind everything else.
	says(t, user+"type a { rel a [user] = this - a; } type b { rel b = c; }", wrong(api.ErrName, "b", "b"))
	says(t, user+"type a { rel a [user] = this - a; } type a {}", wrong(api.ErrTwice, "a", ""))
}

func TestP9_1Faults(t *testing.T) {
	for rels, want := range map[string]string{
		// ErrTwice.
		"rel a [user] = this; rel a [user] = this;":           wrong(api.ErrTwice, "d", "a"),
		"rel a [user] = this; rel b = a; rel a = b;":          wrong(api.ErrTwice, "d", "a"),
		"rel a [user, user] = this;":                          wrong(api.ErrTwice, "d", "a"),
		"rel a [user:*, user, user:*] = this;":                wrong(api.ErrTwice, "d", "a"),
		"rel b [user] = this; rel a [g#m, user, g#m] = this;": wrong(api.ErrTwice, "d", "a"),
		// ErrKind of what is allowed.
		"rel a = this;": wrong(api.ErrKind, "d", "a"),
		"rel a = b - (b & this); rel b [user] = this;":         wrong(api.ErrKind, "d", "a"),
		"rel a = b - (b - this); rel b [user] = this;":         wrong(api.ErrKind, "d", "a"),
		"rel a [user] = b; rel b [user] = this;":               wrong(api.ErrKind, "d", "a"),
		"rel a [user] = p->b; rel p [d] = this; rel b = p->b;": wrong(api.ErrKind, "d", "a"),
		"rel a [user] = b | b - b; rel b [user] = this;":       wrong(api.ErrKind, "d", "a"),
		"rel b [user] = this; rel a = b | b | this | b;":       wrong(api.ErrKind, "d", "a"),
		// ErrName of what is allowed.
		"rel a [x] = this;":           wrong(api.ErrName, "d", "a"),
		"rel a [user, x:*] = this;":   wrong(api.ErrName, "d", "a"),
		"rel a [x#m] = this;":         wrong(api.ErrName, "d", "a"),
		"rel a [g#m, user#m] = this;": wrong(api.ErrName, "d", "a"),
		"rel a [g#a] = this;":         wrong(api.ErrName, "d", "a"),
		"rel a [a] = this;":           wrong(api.ErrName, "d", "a"),
		// ErrName of references.
		"rel a = b;":                            wrong(api.ErrName, "d", "a"),
		"rel a = m;":                            wrong(api.ErrName, "d", "a"),
		"rel a [user] = this - (this & a - b);": wrong(api.ErrName, "d", "a"),
		"rel a = b->c;":                         wrong(api.ErrName, "d", "a"),
		"rel a = x->m;":                         wrong(api.ErrName, "d", "a"),
		"rel a = a | b->a; rel c [d] = this;":   wrong(api.ErrName, "d", "a"),
		// ErrKind of an arrow's Via.
		"rel a = p->m; rel p [g, g#m] = this;":                  wrong(api.ErrKind, "d", "a"),
		"rel a = p->m; rel p [g, g:*] = this;":                  wrong(api.ErrKind, "d", "a"),
		"rel a = p->m; rel p [g:*] = this;":                     wrong(api.ErrKind, "d", "a"),
		"rel a = p->m; rel p [g] = this | this;":                wrong(api.ErrKind, "d", "a"),
		"rel a = p->m; rel p [g] = this - q; rel q [g] = this;": wrong(api.ErrKind, "d", "a"),
		"rel a = p->m; rel p = q; rel q [g] = this;":            wrong(api.ErrKind, "d", "a"),
		"rel a = p->m; rel p = q->x; rel q [g] = this;":         wrong(api.ErrKind, "d", "a"),
		"rel a = a->a;": wrong(api.ErrKind, "d", "a"),
		// ErrName of where an arrow leads.
		"rel a = p->n; rel p [g] = this;":                        wrong(api.ErrName, "d", "a"),
		"rel a = p->a; rel p [d, g] = this;":                     wrong(api.ErrName, "d", "a"),
		"rel a = p->a; rel p [g, d] = this;":                     wrong(api.ErrName, "d", "a"),
		"rel a = p->m; rel p [g, user, d] = this; rel m = p->m;": wrong(api.ErrName, "d", "a"),
		"rel a = p->a; rel p [d, x] = this;":                     wrong(api.ErrName, "d", "a"),
		// What an arrow's Via lacks is its own fault.
		"rel a = p->n; rel p = this;":        wrong(api.ErrKind, "d", "p"),
		"rel a = p->m; rel p [g, g] = this;": wrong(api.ErrTwice, "d", "p"),
		"rel p [x] = this; rel a = p->a;":    wrong(api.ErrName, "d", "p"),
	} {
		says(t, inD(rels), want)
	}
	says(t, user+user, wrong(api.ErrTwice, "user", ""))
	says(t, user+"type g {} type d {} type g {}", wrong(api.ErrTwice, "g", ""))
}

// Of types of one name all are looked at, where something is looked for.
func TestP9_1WhatThereIsIsLookedForInAll(t *testing.T) {
	for s, want := range map[string]string{
		"type a { rel r [b#s] = this; } type b {} type b { rel s [a] = this; }":              wrong(api.ErrTwice, "b", ""),
		"type a { rel r [b#u] = this; } type b {} type b { rel s [a] = this; }":              wrong(api.ErrName, "a", "r"),
		"type a { rel r = s; } type a { rel s [a] = this; }":                                 wrong(api.ErrTwice, "a", ""),
		"type a { rel r = u; } type a { rel s [a] = this; }":                                 wrong(api.ErrName, "a", "r"),
		"type a { rel r = s->r; } type a { rel s [a] = this; }":                              wrong(api.ErrTwice, "a", ""),
		"type a { rel r = s->r; } type a { rel s [a:*] = this; }":                            wrong(api.ErrKind, "a", "r"),
		"type a { rel r = s->u; rel s [b] = this; } type b {} type b { rel u [a] = this; }":  wrong(api.ErrTwice, "b", ""),
		"type a { rel r = s->v; rel s [b] = this; } type b {} type b { rel u [a] = this; }":  wrong(api.ErrName, "a", "r"),
		"type a { rel r = s->r; rel s [a] = this; rel s [a#r] = this; }":                     wrong(api.ErrTwice, "a", "s"), // the first s
		"type a { rel r = s->r; rel s [a#r] = this; rel s [a] = this; }":                     wrong(api.ErrKind, "a", "r"),
		"type a { rel r = s->r; rel s [a] = this; } type a { rel s [a#r] = this; }":          wrong(api.ErrTwice, "a", ""),
		"type a { rel r [b] = this; } type c { rel r [a#r, b] = this; } type b {} type c {}": wrong(api.ErrTwice, "c", ""),
	} {
		says(t, s, want)
	}
}

// many is so many relations, all of one kind.
func many(n int) string {
	s := ""
	for k := range n {
		s += fmt.Sprintf("rel r%d [user] = this; ", k)
	}
	return s
}

func TestP9_1Limits(t *testing.T) {
	if api.MaxTypes != 6 || api.MaxRels != 8 || api.MaxAllowed != 6 {
		t.Fatal("other limits")
	}
	types := "type a {} type b {} type c {} type d {} type e {} "
	says(t, types+user, "")
	says(t, types+user+"type f {}", wrong(api.ErrFull, "", ""))
	says(t, strings.Repeat(user, 7), wrong(api.ErrFull, "", ""))
	says(t, strings.Repeat(user, 6), wrong(api.ErrTwice, "user", ""))
	says(t, types+"type f { rel a = b; } type user { "+many(9)+"}", wrong(api.ErrFull, "", ""))
	says(t, user+"type d { "+many(8)+"}", "d#r0 0, d#r1 0, d#r2 0, d#r3 0, d#r4 0, d#r5 0, d#r6 0, d#r7 0")
	says(t, user+"type d { "+many(9)+"}", wrong(api.ErrFull, "d", ""))
	says(t, user+"type d { "+many(8)+"} type e { "+many(9)+"}", wrong(api.ErrFull, "e", ""))
	says(t, types+"type user { rel x [a, b, c, d, e, user] = this; }", "user#x 0")
	says(t, types+"type user { rel x [a, b, c, d, e, user, user:*] = this; }", wrong(api.ErrFull, "user", "x"))
	says(t, types+"type user { rel x [a, a, a, a, a, a, a] = this; }", wrong(api.ErrFull, "user", "x"))
	says(t, types+"type user { rel x [a, a, a, a, a, a] = this; }", wrong(api.ErrTwice, "user", "x"))
}

// Of all relations that there may be each hangs oddly on the next.
func TestP9_1TheHighestStratum(t *testing.T) {
	var c api.Config
	want := ""
	for k := range api.MaxTypes {
		typ := api.Type{Name: "abcdef"[k : k+1]}
		for j := range api.MaxRels {
			r := api.Rel{Name: fmt.Sprint("r", j), Expr: this(), Allow: []api.Allow{{Type: "a"}}}
			if j+1 < api.MaxRels {
				r.Expr = except(this(), computed(fmt.Sprint("r", j+1)))
			} else if k+1 < api.MaxTypes {
				// Its own This stands in an odd place.
				r.Allow = append(r.Allow, api.Allow{Type: "abcdef"[k+1 : k+2], Relation: "r0"})
				r.Expr = except(computed("r7"), this())
			}
			typ.Rels = append(typ.Rels, r)
			want += fmt.Sprintf("%s#r%d %d, ", typ.Name, j, 47-8*k-j)
		}
		c.Types = append(c.Types, typ)
	}
	if got := checked(c); got != strings.TrimSuffix(want, ", ") {
		t.Errorf("Check: %s", got)
	}
	for k := range c.Types {
		slices.Reverse(c.Types[k].Rels)
	}
	slices.Reverse(c.Types)
	if items, _, e := lint.Check(c); e != api.OK || items[47] != (lint.Item{Type: "a", Relation: "r0", Stratum: 47}) {
		t.Errorf("Check: %v, %d", items, e)
	}
	last := &c.Types[0].Rels[0]
	last.Allow = append(last.Allow, api.Allow{Type: "a", Relation: "r0"})
	if got := checked(c); got != wrong(api.ErrCycle, "f", "r7") {
		t.Errorf("Check: %s", got)
	}
}

// A relation that has some of the faults: the first in the order is told.
func TestP9_1FaultsOfOneRelationInOrder(t *testing.T) {
	base := user + "type g { rel m [user] = this; } type d { rel p [g] = this; rel q [g, g:*] = this; rel o [user] = this; "
	allowed := []string{"user", "g", "d", "d:*", "g#m", "g:*"}
	for set := range 1 << 8 {
		has := func(k int) bool { return set>>k&1 == 1 }
		name, expr, l := "r", "o", []string(nil)
		want := api.OK
		tell := func(e api.Errno) {
			if want == api.OK {
				want = e
			}
		}
		if has(0) {
			l = append(l, allowed...)
			l = append(l, "user:*")
			tell(api.ErrFull)
		} else {
			l = append(l, "user")
		}
		if has(1) {
			name = "o"
			tell(api.ErrTwice)
		}
		if has(2) {
			l = append(l, "user")
			tell(api.ErrTwice)
		}
		if has(3) {
			tell(api.ErrKind)
		} else {
			expr = "this"
		}
		if has(4) {
			l = append(l, "x")
			tell(api.ErrName)
		}
		if has(5) {
			expr += " | q->m"
			tell(api.ErrKind)
		}
		if has(6) {
			expr += " | (p->m & x)"
			tell(api.ErrName)
		}
		if has(7) {
			expr += " | o - q->x"
			tell(api.ErrKind)
		}
		s := base + "rel " + name + " [" + strings.Join(l, ", ") + "] = " + expr + "; rel y = p->o; rel y = x; }"
		if want == api.OK {
			says(t, s, wrong(api.ErrName, "d", "y"))
			continue
		}
		says(t, s, wrong(want, "d", name))
	}
}

// What stands ahead is told, whatever the number of its fault.
func TestP9_1FaultsOfPlacesInOrder(t *testing.T) {
	faults := map[string]api.Errno{
		"rel % [user, d, d:*, user:*, user, user, user] = this; ": api.ErrFull,
		"rel % [user, user] = this; ":                             api.ErrTwice,
		"rel % = this; ":                                          api.ErrKind,
		"rel % [x] = this; ":                                      api.ErrName,
		"rel % = x; ":                                             api.ErrName,
		"rel % = %->x; ":                                          api.ErrKind,
	}
	rel := func(form, name string) string { return strings.ReplaceAll(form, "%", name) }
	for first, e := range faults {
		for second := range faults {
			says(t, user+"type d { rel z [d] = this; "+rel(first, "a")+rel(second, "b")+"}", wrong(e, "d", "a"))
			says(t, user+"type d { "+rel(first, "a")+"} type e { "+rel(second, "a")+"}", wrong(e, "d", "a"))
		}
		says(t, user+"type d { "+rel(first, "a")+"} "+user, wrong(e, "d", "a"))
		says(t, user+"type d { "+rel(first, "a")+"} type e { "+many(9)+"}", wrong(e, "d", "a"))
		says(t, user+"type d {} type d { "+rel(first, "a")+"}", wrong(api.ErrTwice, "d", ""))
		says(t, user+"type d { "+rel(first, "a")+many(8)+"}", wrong(api.ErrFull, "d", ""))
	}
	// Of a type its number of relations is ahead of its name.
	says(t, user+"type d {} type d { "+many(9)+"}", wrong(api.ErrFull, "d", ""))
	says(t, user+"type d {} type d { "+many(8)+"}", wrong(api.ErrTwice, "d", ""))
	// Of a relation's references the first one that is wrong.
	for expr, e := range map[string]api.Errno{
		"x | a->a": api.ErrName, "a->a | x": api.ErrKind, "p->x | a->x": api.ErrName, "a->x & p->x": api.ErrKind,
		"a - p->x | a->p": api.ErrName, "a - (p->p - a->p) | x": api.ErrKind, "x->a & a->a": api.ErrName,
	} {
		says(t, user+"type d { rel a = "+expr+"; rel p [d] = this; }", wrong(e, "d", "a"))
	}
}

func TestP9_1WhatIsntWellMade(t *testing.T) {
	good := func() api.Config {
		return parsed(t, user+"type d { rel a [user, d#a, user:*] = this; rel b = a; }")
	}
	if got := checked(good()); got != "d#a 0, d#b 0" {
		t.Fatalf("Check: %s", got)
	}
	for name, change := range map[string]func(c *api.Config){
		"a type's name":     func(c *api.Config) { c.Types[0].Name = "" },
		"a word":            func(c *api.Config) { c.Types[0].Name = "this" },
		"a relation's name": func(c *api.Config) { c.Types[1].Rels[1].Name = "B" },
		"an allowed type":   func(c *api.Config) { c.Types[1].Rels[0].Allow[0].Type = "u v" },
		"what is Wild":      func(c *api.Config) { c.Types[1].Rels[0].Allow[1].Wild = true },
		"no expression":     func(c *api.Config) { c.Types[1].Rels[1].Expr = node{} },
		"a part":            func(c *api.Config) { c.Types[1].Rels[1].Expr = union(computed("a"), node{Kind: 7}) },
		"too few parts":     func(c *api.Config) { c.Types[1].Rels[1].Expr = union(computed("a")) },
		"too great a node":  func(c *api.Config) { c.Types[1].Rels[1].Expr = union(slices.Repeat([]node{computed("a")}, 24)...) },
		"too deep a node":   func(c *api.Config) { c.Types[1].Rels[1].Expr = deep(9) },
		"ahead of ErrFull":  func(c *api.Config) { c.Types = append(slices.Repeat(c.Types, 4), api.Type{}) },
		"ahead of ErrTwice": func(c *api.Config) { c.Types = append(c.Types, c.Types[0], api.Type{Name: "rel"}) },
		"ahead of ErrName":  func(c *api.Config) { c.Types[0].Rels = []api.Rel{{Name: "a", Expr: computed("x")}, {Name: "b"}} },
	} {
		c := good()
		change(&c)
		if got := checked(c); got != wrong(api.ErrForm, "", "") {
			t.Errorf("%s: %s, want ErrForm", name, got)
		}
	}
	c := good()
	c.Types[1].Rels[1].Expr = union(slices.Repeat([]node{computed("a")}, 23)...)
	c.Types[1].Rels = append(c.Types[1].Rels, api.Rel{Name: "c", Expr: deep(8)})
	if got := checked(c); got != "d#a 0, d#b 0, d#c 0" {
		t.Errorf("the greatest expressions: %s", got)
	}
}

// deep is a node of this depth, whose parts are a.
func deep(depth int) node {
	n := computed("a")
	for range depth - 1 {
		n = union(n, computed("a"))
	}
	return n
}
