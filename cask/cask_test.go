package cask_test

import (
	"slices"
	"strconv"
	"strings"
	"testing"

	"stile/api"
	"stile/cask"
	"stile/grammar"
)

// packs: has a configuration these bytes, there and back?
func packs(t *testing.T, c api.Config, want string) {
	t.Helper()
	b, e := cask.Pack(c)
	if string(b) != want || e != api.OK {
		t.Fatalf("Pack: %.300q, %d, want %.300q", b, e, want)
	}
	x, e := cask.Unpack([]byte(want))
	if ofConfig(x) != ofConfig(c) || e != api.OK {
		t.Fatalf("Unpack(%.300q): %.300q, %d", want, ofConfig(x), e)
	}
}

// noPack: is a configuration refused?
func noPack(t *testing.T, c api.Config) {
	t.Helper()
	if b, e := cask.Pack(c); len(b) != 0 || e != api.ErrForm {
		t.Errorf("Pack: %.300q, %d, want ErrForm", b, e)
	}
}

// none: are these no configuration's bytes?
func none(t *testing.T, s string) {
	t.Helper()
	if c, e := cask.Unpack([]byte(s)); len(c.Types) != 0 || e != api.ErrForm {
		t.Errorf("Unpack(%.300q): %.300q, %d, want ErrForm", s, ofConfig(c), e)
	}
}

func TestP10_1Examples(t *testing.T) {
	packs(t, api.Config{}, "0;")
	packs(t, api.Config{Types: []api.Type{{Name: "a"}}}, "1;1;a,0;")
	c, _, e := grammar.Parse("type a {}")
	if e != api.OK {
		t.Fatal(e)
	}
	packs(t, c, "1;1;a,0;")
}

func TestP10_1Bytes(t *testing.T) {
	packs(t, whole(), wholeBytes)
	for want, n := range map[string]node{
		"1;0;,0;,0;":                                            this(),
		"2;1;a,0;,0;":                                           computed("a"),
		"2;16;abcdefghijklmnop,0;,0;":                           computed("abcdefghijklmnop"),
		"3;1;a,2;bc,0;":                                         arrow("a", "bc"),
		"4;0;,0;,2;1;0;,0;,0;2;1;a,0;,0;":                       union(this(), computed("a")),
		"4;0;,0;,2;2;1;a,0;,0;1;0;,0;,0;":                       union(computed("a"), this()),
		"5;0;,0;,3;1;0;,0;,0;1;0;,0;,0;1;0;,0;,0;":              meet(this(), this(), this()),
		"6;0;,0;,2;3;1;a,1;b,0;5;0;,0;,2;1;0;,0;,0;1;0;,0;,0;":  except(arrow("a", "b"), meet(this(), this())),
		"6;0;,0;,2;4;0;,0;,2;1;0;,0;,0;2;1;a,0;,0;3;1;p,1;b,0;": except(union(this(), computed("a")), arrow("p", "b")),
		"4;0;,0;,23;" + strings.Repeat("1;0;,0;,0;", 23):        wide(24),
		strings.Repeat("5;0;,0;,2;", 7) + "1;0;,0;,0;" + strings.Repeat("2;1;a,0;,0;", 7): chain(api.Meet, 8),
	} {
		packs(t, config(n), "1;1;t,1;1;r,0;"+want)
	}
	for want, a := range map[string]api.Allow{
		"1;a,0;,-":     {Type: "a"},
		"1;a,0;,+":     {Type: "a", Wild: true},
		"1;a,2;bc,-":   {Type: "a", Relation: "bc"},
		"3;abc,1;a,-":  {Type: "abc", Relation: "a"},
		"5;types,0;,+": {Type: "types", Wild: true},
	} {
		c := config(this())
		c.Types[0].Rels[0].Allow = []api.Allow{a}
		packs(t, c, "1;1;t,1;1;r,1;"+want+"1;0;,0;,0;")
		c.Types[0].Rels[0].Allow = []api.Allow{a, {Type: "x"}, a}
		packs(t, c, "1;1;t,1;1;r,3;"+want+"1;x,0;,-"+want+"1;0;,0;,0;")
	}
}

func TestP10_1WellMadeOnesArePacked(t *testing.T) {
	for _, c := range good() {
		packs(t, c, ofConfig(c))
	}
	m := newMaker(101)
	for range 2000 {
		c := m.config()
		packs(t, c, ofConfig(c))
	}
}

func TestP10_1OthersAreRefused(t *testing.T) {
	for _, c := range bad() {
		noPack(t, c)
		none(t, ofConfig(c))
		c.Types = append(whole().Types, c.Types...)
		noPack(t, c)
		none(t, ofConfig(c))
	}
}

func TestP10_1Limits(t *testing.T) {
	if api.MaxNodes != 24 || api.MaxNest != 8 || api.MaxName != 16 {
		t.Fatal("other limits")
	}
	name := strings.Repeat("a", 16)
	for _, n := range []node{wide(24), chain(api.Union, 8), meet(wide(12), wide(11)), computed(name), arrow(name, name)} {
		packs(t, config(n), ofConfig(config(n)))
	}
	for _, n := range []node{wide(25), chain(api.Union, 9), meet(wide(12), wide(12)), computed(name + "a"), arrow(name, name+"a"), arrow(name+"a", name)} {
		noPack(t, config(n))
		none(t, ofConfig(config(n)))
	}
	eachName(func(c api.Config, at *string, _ bool) {
		*at = name
		packs(t, c, ofConfig(c))
		*at = name + "a"
		noPack(t, c)
		none(t, ofConfig(c))
	})
}

// rel is the bytes of a configuration's one relation r of its one type t.
func rel(allow, expr string) string { return "1;1;t,1;1;r," + allow + expr }

func TestP10_1WhatAreNoBytes(t *testing.T) {
	this := "1;0;,0;,0;"
	for _, s := range []string{
		"", ";", ",", "0", "0,", "00;", "01;1;a,0;", "-0;", "+0;", " 0;", "0; ", "0;\n", "0;0;", "0;;", "0;\x00", "a", "type a {}", "1;a,", "\xff", "+", "-", "0;-",
		"1;", "1;0;", "1;1;a,", "1;1;a,1;", "1;1;a,00;", "1;01;a,0;", "1;1;a;0;", "1;a,0;", "1;1;a0;", "1;2;a,0;", "1;0;a,0;", "1;0;,0;", "1;1;a,0;0;", "1;1;a,0;1;a,0;", "1;4;type,0;", "1;1;A,0;",
		"2;1;a,0;", "3;1;a,0;1;b,0;", "1048577;", "2147483648;", "99999999999999999;", "99999999999999999;1;a,0;", "100000000000000000;", "9223372036854775807;", "18446744073709551616;", "18446744073709551617;1;a,0;",
		"1;1;t,99999999999999999;", "1;99999999999999999;t,0;",
		rel("0;", ""), rel("", this), rel("0;", "0;0;,0;,0;"), rel("0;", "7;0;,0;,0;"), rel("0;", "10;0;,0;,0;"), rel("0;", "-1;0;,0;,0;"), rel("0;", "01;0;,0;,0;"), rel("0;", "99999999999999999;0;,0;,0;"),
		rel("0;", this[:9]), rel("0;", this+"0;"), rel("0;", this+this), rel("0;", "1;0;,0;,"), rel("0;", "1;0;,0;"), rel("0;", "1;0,0;,0;"), rel("0;", "1;00;,0;,0;"), rel("0;", "1;0;,0;,00;"),
		rel("0;", "1;1;a,0;,0;"), rel("0;", "1;0;,1;a,0;"), rel("0;", "1;0;,0;,1;"+this), rel("0;", "2;0;,0;,0;"), rel("0;", "2;1;a,1;b,0;"), rel("0;", "3;1;a,0;,0;"),
		rel("0;", "4;0;,0;,0;"), rel("0;", "4;0;,0;,1;"+this), rel("0;", "4;0;,0;,3;"+this+this), rel("0;", "4;0;,0;,2;"+this+this+this), rel("0;", "6;0;,0;,3;"+this+this+this), rel("0;", "4;0;,0;,99999999999999999;"+this+this),
		rel("1;", this), rel("1;1;a,", this), rel("1;1;a,0;,", this), rel("1;1;a,0;,1;", this), rel("1;1;a,0;,*", this), rel("1;1;a,1;b,+", this), rel("1;0;,0;,-", this), rel("1;0;,1;b,-", this), rel("1;1;a,0;-", this),
		rel("2;1;a,0;,-", this), rel("1;1;a,0;,-1;a,0;,-", this), rel("00;", this), rel("99999999999999999;1;a,0;,-", this), rel("1;1;a,0;,--", this), rel("1;1;a,0;,\u2212", this),
	} {
		none(t, s)
	}
	packs(t, config(node{Kind: api.This}), rel("0;", this))
}

func TestP10_1CutBytesAndMoreBehind(t *testing.T) {
	for _, c := range good() {
		s := ofConfig(c)
		for n := range len(s) {
			none(t, s[:n])
		}
		for _, more := range []string{"0;", ";", ",", "+", "-", "\x00", " ", "\n", "0", s} {
			none(t, s+more)
			none(t, more+s)
		}
		// One type more is told, or one less.
		if k := len(c.Types); k > 0 {
			rest := strings.TrimPrefix(s, strconv.Itoa(k)+";")
			none(t, strconv.Itoa(k+1)+";"+rest)
			none(t, strconv.Itoa(k-1)+";"+rest)
		}
	}
}

// The bytes that there are of few pieces: just those of three configurations.
func TestP10_1AllOfFewPieces(t *testing.T) {
	pieces := []string{"0;", "1;", "1;a,", "0;,"}
	want := []string{"0;", "1;1;a,0;", "1;1;a,1;1;a,0;1;0;,0;,0;"}
	var got []string
	row := []string{""}
	for range 9 {
		var next []string
		for _, s := range row {
			for _, p := range pieces {
				if _, e := cask.Unpack([]byte(s + p)); e == api.OK {
					got = append(got, s+p)
				}
				next = append(next, s+p)
			}
		}
		row = next
	}
	if !slices.Equal(got, want) {
		t.Errorf("Unpack takes %q, want %q", got, want)
	}
}

func TestP10_1Same(t *testing.T) {
	all := append(good(), bad()...)
	m := newMaker(102)
	for range 50 {
		all = append(all, m.config())
	}
	told := make([]string, len(all))
	for k, c := range all {
		told[k] = ofConfig(c)
	}
	for k, a := range all {
		for j, b := range all {
			if same := told[k] == told[j]; cask.Same(a, b) != same {
				t.Fatalf("Same of %.200q and %.200q isn't %v", told[k], told[j], same)
			}
		}
	}
}

// Configurations that aren't the same in one part alone.
func TestP10_1SameOfOneOtherPart(t *testing.T) {
	change := map[string]func(c api.Config) api.Config{
		"a type's name": func(c api.Config) api.Config { c.Types[0].Name = "v"; return c },
		"no type":       func(c api.Config) api.Config { return api.Config{} },
		"a type less":   func(c api.Config) api.Config { c.Types = c.Types[1:]; return c },
		"a type more":   func(c api.Config) api.Config { c.Types = append(c.Types, api.Type{}); return c },
		"other order":   func(c api.Config) api.Config { slices.Reverse(c.Types); return c },
		"rel's name":    func(c api.Config) api.Config { c.Types[1].Rels[2].Name += "x"; return c },
		"a rel less":    func(c api.Config) api.Config { c.Types[1].Rels = c.Types[1].Rels[:2]; return c },
		"a rel more":    func(c api.Config) api.Config { c.Types[0].Rels = make([]api.Rel, 1); return c },
		"rels' order":   func(c api.Config) api.Config { slices.Reverse(c.Types[1].Rels); return c },
		"allowed type":  func(c api.Config) api.Config { c.Types[1].Rels[1].Allow[2].Type = "v"; return c },
		"its relation":  func(c api.Config) api.Config { c.Types[1].Rels[1].Allow[2].Relation = "v"; return c },
		"wild":          func(c api.Config) api.Config { c.Types[1].Rels[1].Allow[2].Wild = false; return c },
		"allowed order": func(c api.Config) api.Config { slices.Reverse(c.Types[1].Rels[1].Allow); return c },
		"allowed less":  func(c api.Config) api.Config { c.Types[1].Rels[0].Allow = nil; return c },
		"allowed more":  func(c api.Config) api.Config { c.Types[1].Rels[2].Allow = make([]api.Allow, 1); return c },
		"a node's kind": func(c api.Config) api.Config { c.Types[1].Rels[1].Expr.Kids[0].Kind = api.Meet; return c },
		"a node's A":    func(c api.Config) api.Config { c.Types[1].Rels[1].Expr.Kids[0].Kids[1].A = "q"; return c },
		"a node's B":    func(c api.Config) api.Config { c.Types[1].Rels[1].Expr.Kids[0].Kids[1].B = "q"; return c },
		"kids' order":   func(c api.Config) api.Config { slices.Reverse(c.Types[1].Rels[1].Expr.Kids); return c },
		"a kid less": func(c api.Config) api.Config {
			kids := &c.Types[1].Rels[1].Expr.Kids[1].Kids
			*kids = (*kids)[:2]
			return c
		},
		"the last expression": func(c api.Config) api.Config { c.Types[1].Rels[2].Expr = this(); return c },
	}
	if !cask.Same(whole(), whole()) {
		t.Fatal("Same of two that are the same: false")
	}
	for what, changed := range change {
		if c := changed(whole()); cask.Same(c, whole()) || cask.Same(whole(), c) || !cask.Same(c, c) {
			t.Errorf("Same: %s", what)
		}
	}
}
