package lint_test

import (
	"slices"
	"strings"
	"testing"

	"stile/api"
	"stile/canon"
	"stile/lint"
)

// A model of the chapter's words, told otherwise than the program does it: all
// faults are gathered, each with its rank, and the least one is taken.

// A fault has the places of its type and of its relation (-1, if it is the
// type's own), which of the five it is, and which reference.
type fault struct {
	typ, rel, of, ref, within int
	e                         api.Errno
}

func (f fault) rank() []int { return []int{f.typ, f.rel, f.of, f.ref, f.within} }

// rels are all relations that are named so, of all types that are.
func rels(c api.Config, typ, name string) []api.Rel {
	var l []api.Rel
	for _, t := range c.Types {
		for _, r := range t.Rels {
			if t.Name == typ && r.Name == name {
				l = append(l, r)
			}
		}
	}
	return l
}

func isType(c api.Config, name string) bool {
	return slices.ContainsFunc(c.Types, func(t api.Type) bool { return t.Name == name })
}

// eachRef goes through references, and This where thises asks for them.
func eachRef(n node, odd bool, see func(n node, odd bool)) {
	if len(n.Kids) == 0 {
		see(n, odd)
	}
	for k, kid := range n.Kids {
		eachRef(kid, odd != (n.Kind == api.Except && k == 1), see)
	}
}

func relFaults(c api.Config, y, j int, add func(of, ref, within int, e api.Errno)) {
	t := c.Types[y]
	r := t.Rels[j]
	if len(r.Allow) > 6 {
		add(1, 0, 0, api.ErrFull)
	}
	for _, other := range t.Rels[:j] {
		if other.Name == r.Name {
			add(2, 0, 0, api.ErrTwice)
		}
	}
	for k, a := range r.Allow {
		if slices.Index(r.Allow, a) != k {
			add(2, 0, 0, api.ErrTwice)
		}
		if !isType(c, a.Type) || a.Relation != "" && len(rels(c, a.Type, a.Relation)) == 0 {
			add(4, 0, 0, api.ErrName)
		}
	}
	if hasThis(r.Expr) == (len(r.Allow) == 0) {
		add(3, 0, 0, api.ErrKind)
	}
	ref := 0
	eachRef(r.Expr, false, func(n node, _ bool) {
		ref++
		switch {
		case n.Kind == api.This:
		case len(rels(c, t.Name, n.A)) == 0:
			add(5, ref, 0, api.ErrName)
		case n.Kind == api.Arrow:
			via := rels(c, t.Name, n.A)[0]
			if via.Expr.Kind != api.This {
				add(5, ref, 1, api.ErrKind)
			}
			for _, a := range via.Allow {
				if a.Wild || a.Relation != "" {
					add(5, ref, 1, api.ErrKind)
				}
				if len(rels(c, a.Type, n.B)) == 0 {
					add(5, ref, 2, api.ErrName)
				}
			}
		}
	})
}

// modelFault is the first thing that is wrong, but for cycles, as told says it.
func modelFault(c api.Config) string {
	if len(c.Types) > 6 {
		return wrong(api.ErrFull, "", "")
	}
	var all []fault
	for y, t := range c.Types {
		if len(t.Rels) > 8 {
			all = append(all, fault{typ: y, rel: -1, of: 1, e: api.ErrFull})
		}
		for _, other := range c.Types[:y] {
			if other.Name == t.Name {
				all = append(all, fault{typ: y, rel: -1, of: 2, e: api.ErrTwice})
			}
		}
		for j := range t.Rels {
			relFaults(c, y, j, func(of, ref, within int, e api.Errno) {
				all = append(all, fault{y, j, of, ref, within, e})
			})
		}
	}
	if len(all) == 0 {
		return ""
	}
	f := slices.MinFunc(all, func(a, b fault) int { return slices.Compare(a.rank(), b.rank()) })
	if f.rel < 0 {
		return wrong(f.e, c.Types[f.typ].Name, "")
	}
	return wrong(f.e, c.Types[f.typ].Name, c.Types[f.typ].Rels[f.rel].Name)
}

// hangs tells see, of each relation of a configuration without faults, what it
// hangs on.
func hangs(c api.Config, see func(from, to lint.Spot, odd bool)) {
	for _, t := range c.Types {
		for _, r := range t.Rels {
			from := lint.Spot{Type: t.Name, Relation: r.Name}
			eachRef(r.Expr, false, func(n node, odd bool) {
				switch n.Kind {
				case api.This:
					for _, a := range r.Allow {
						if a.Relation != "" {
							see(from, lint.Spot{Type: a.Type, Relation: a.Relation}, odd)
						}
					}
				case api.Computed:
					see(from, lint.Spot{Type: t.Name, Relation: n.A}, odd)
				case api.Arrow:
					for _, a := range rels(c, t.Name, n.A)[0].Allow {
						see(from, lint.Spot{Type: a.Type, Relation: n.B}, odd)
					}
				}
			})
		}
	}
}

func spots(c api.Config) []lint.Spot {
	var l []lint.Spot
	for _, t := range c.Types {
		for _, r := range t.Rels {
			l = append(l, lint.Spot{Type: t.Name, Relation: r.Name})
		}
	}
	return l
}

type pair struct{ from, to lint.Spot }

// modelStrata is what told says of a configuration without faults. It reckons
// from where a way leads with so many odd steps on it, for all numbers of them.
func modelStrata(c api.Config) string {
	all := spots(c)
	ways, oddly := map[pair]bool{}, map[pair]bool{}
	for _, s := range all {
		ways[pair{s, s}] = true
	}
	hangs(c, func(from, to lint.Spot, odd bool) {
		ways[pair{from, to}] = true
		if odd {
			oddly[pair{from, to}] = true
		}
	})
	for _, mid := range all {
		for _, a := range all {
			for _, b := range all {
				if ways[pair{a, mid}] && ways[pair{mid, b}] {
					ways[pair{a, b}] = true
				}
			}
		}
	}
	for _, s := range all {
		for step := range oddly {
			if ways[pair{s, step.from}] && ways[pair{step.to, s}] {
				return wrong(api.ErrCycle, s.Type, s.Relation)
			}
		}
	}
	var items []lint.Item
	for _, s := range all {
		items = append(items, lint.Item{Type: s.Type, Relation: s.Relation})
	}
	for reached := all; len(reached) > 0; {
		var more []lint.Spot
		for k, s := range all {
			for step := range oddly {
				if ways[pair{s, step.from}] && slices.Contains(reached, step.to) {
					items[k].Stratum++
					more = append(more, s)
					break
				}
			}
		}
		reached = more
	}
	return told(items, lint.Spot{}, api.OK)
}

func model(c api.Config) string {
	if !canon.Good(c) {
		return wrong(api.ErrForm, "", "")
	}
	if s := modelFault(c); s != "" {
		return s
	}
	return modelStrata(c)
}

// spoil lays one change, that is often a fault, into a configuration.
func (m maker) spoil(c *api.Config) {
	t := &c.Types[m.Intn(len(c.Types))]
	if m.Intn(12) == 0 {
		t.Name = one(m, c.Types).Name
	}
	if m.Intn(12) == 0 {
		c.Types = append(c.Types, *t)
	}
	if len(t.Rels) == 0 {
		return
	}
	r := &t.Rels[m.Intn(len(t.Rels))]
	other := one(m, t.Rels)
	names := []string{"p", "q", "u", "z"}
	switch m.Intn(10) {
	case 0:
		r.Name = one(m, t.Rels).Name
	case 1:
		r.Name = one(m, names)
	case 2:
		r.Allow = append(slices.Clone(r.Allow), other.Allow...)
	case 3:
		r.Allow = nil
	case 4:
		r.Allow = append(slices.Clone(r.Allow), api.Allow{Type: one(m, []string{"a", "b", "x"}), Relation: one(m, names)})
	case 5:
		r.Allow = append(slices.Clone(r.Allow), api.Allow{Type: one(m, []string{"a", "b", "x"}), Wild: m.Intn(2) == 0})
	case 6:
		r.Expr = union(r.Expr, computed(one(m, names)))
	case 7:
		r.Expr = meet(arrow(one(m, names), one(m, names)), r.Expr)
	case 8:
		r.Expr = except(r.Expr, other.Expr)
	case 9:
		for len(t.Rels) <= api.MaxRels {
			t.Rels = append(t.Rels, one(m, t.Rels))
		}
	}
}

func TestP9_1ChecksAreTheWords(t *testing.T) {
	m := newMaker(9)
	seen := map[string]int{}
	for range 20000 {
		c := m.faultless()
		if m.Intn(2) == 0 {
			for range 1 + m.Intn(3) {
				m.spoil(&c)
			}
		}
		want := model(c)
		if got := checked(c); got != want {
			t.Fatalf("P9.1: Check:\n%s%s, want %s", ofConfig(c), got, want)
		}
		kind, _, _ := strings.Cut(want, " at ")
		if kind == want {
			kind = "sound, of stratum " + string(slices.Max([]byte(strata(want)+"0")))
		}
		seen[kind]++
	}
	for _, kind := range []string{"3", "13", "14", "15", "16", "sound, of stratum 0", "sound, of stratum 1", "sound, of stratum 2", "sound, of stratum 3"} {
		if seen[kind] < 20 {
			t.Errorf("of %s only %d; all: %v", kind, seen[kind], seen)
		}
	}
}

// strata are the digits in an answer that told says.
func strata(told string) string {
	return strings.Map(func(r rune) rune {
		if r >= '0' && r <= '9' {
			return r
		}
		return -1
	}, told)
}

// P9.2, by what relations hang on.
func TestP9_2StrataAreInOrder(t *testing.T) {
	m := newMaker(92)
	sound := 0
	for range 5000 {
		c := m.faultless()
		items, _, e := lint.Check(c)
		if e != api.OK {
			continue
		}
		sound++
		of := map[lint.Spot]int{}
		for _, x := range items {
			of[lint.Spot{Type: x.Type, Relation: x.Relation}] = x.Stratum
		}
		hangs(c, func(from, to lint.Spot, odd bool) {
			if odd && of[to] >= of[from] || of[to] > of[from] {
				t.Fatalf("P9.2: %s: %v of stratum %d hangs on %v of %d, oddly: %v", ofConfig(c), from, of[from], to, of[to], odd)
			}
		})
	}
	if sound < 1000 {
		t.Errorf("only %d are sound", sound)
	}
}
