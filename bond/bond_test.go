package bond_test

import (
	"strings"
	"testing"

	"stile/api"
	"stile/bond"
)

func tuple(typ, id, relation, subjectType, subjectId, subjectRelation string) api.Tuple {
	return api.Tuple{Type: typ, Id: id, Relation: relation, Subject: api.Subject{Type: subjectType, Id: subjectId, Relation: subjectRelation}}
}

var (
	name16 = strings.Repeat("n", 16)
	id24   = strings.Repeat("\u00e4", 24)
)

// texts are those of good tuples, each with its own.
var texts = map[string]api.Tuple{
	"doc:readme#owner@user:ann":          tuple("doc", "readme", "owner", "user", "ann", ""),
	"doc:readme#viewer@group:eng#member": tuple("doc", "readme", "viewer", "group", "eng", "member"),
	"doc:readme#viewer@user:*":           tuple("doc", "readme", "viewer", "user", "*", ""),
	"group:eng#member@group:eng#member":  tuple("group", "eng", "member", "group", "eng", "member"),
	"group:eng#member@group:*":           tuple("group", "eng", "member", "group", "*", ""),
	"a:b#c@d:e":                          tuple("a", "b", "c", "d", "e", ""),
	"a:b#c@d:e#f":                        tuple("a", "b", "c", "d", "e", "f"),
	"a:b#c@a:b":                          tuple("a", "b", "c", "a", "b", ""),
	"a:\u00e4#c@d:\ufffd":                tuple("a", "\u00e4", "c", "d", "\ufffd", ""),
	"a:\ufffd#c@d:\u00e4#f":              tuple("a", "\ufffd", "c", "d", "\u00e4", "f"),
	"a:b\uff20x#c@d:e\uff03f":            tuple("a", "b\uff20x", "c", "d", "e\uff03f", ""), // what looks like an @ and a #
	"a_9:A-1.b/c#r_9@m0:'{}[]|=#s__":     tuple("a_9", "A-1.b/c", "r_9", "m0", "'{}[]|=", "s__"),
	"a:0#c@d:9":                          tuple("a", "0", "c", "d", "9", ""),
	name16 + ":b#c@d:e":                  tuple(name16, "b", "c", "d", "e", ""),
	"a:" + id24 + "#c@d:e":               tuple("a", id24, "c", "d", "e", ""),
	"a:b#" + name16 + "@d:e":             tuple("a", "b", name16, "d", "e", ""),
	"a:b#c@" + name16 + ":e":             tuple("a", "b", "c", name16, "e", ""),
	"a:b#c@" + name16 + ":*":             tuple("a", "b", "c", name16, "*", ""),
	"a:b#c@d:" + id24:                    tuple("a", "b", "c", "d", id24, ""),
	"a:b#c@d:e#" + name16:                tuple("a", "b", "c", "d", "e", name16),
	name16 + ":" + id24 + "#" + name16 + "@" + name16 + ":" + id24 + "#" + name16: tuple(name16, id24, name16, name16, id24, name16),
}

// nobodys are texts of no good tuple, most of them nearly one's.
var nobodys = []string{
	"", " ", "#", "@", ":", "#@", "@#", ":#@:", ":#@:#", "a", "a:b", "a:b#c", "d:e", "d:e#f", "*", "a:*", "doc:readme",
	// What lacks.
	"a:bc@d:e", "a:b@d:e", "a:b@d:e#f", "a:b@c#d:e", "@d:e", "a:b#cd:e", "a:b#cd:e#f", "a:b#c#d:e", "a:b#c:e", "#c@d:e", "a:b#@d:e", "a:b#c@", "a:b#c@d", "a:b#c@d:", "a:b#c@:e", "a:b#c@:", "a:b#c@:e#f", "a:b#c@d#f", "a:b#c@#f", "a:b#c@d:#f", "a:b#c@d:e#",
	"a#c@d:e", "a:#c@d:e", ":b#c@d:e", ":#c@d:e", "ab#c@d:e", "a:b#c@de", "a:b#", "a:b#@", "a:b@", "a:b@#", "a:b@#d:e", "a:b@c", "#c", "#c@",
	// What comes twice.
	"a:b##c@d:e", "#a:b#c@d:e", "a:b#c#@d:e", "a:b#c#x@d:e", "a:b#c@@d:e", "a:b#c@d:e@", "a:b#c@d:e@f", "a:b#c@d@d:e", "a:b#c@d:e@d:e", "@a:b#c@d:e", "a:b@#c@d:e", "a:b#@c@d:e", "a@b:b#c@d:e", "a:b@b#c@d:e", "a:b@x#c@d:e", "a:b#c@d:e#f#g", "a:b#c@d:e##f", "a:b#c@d:e#f#", "a:b#c@d:e#f@g", "a:b#c@d:e#f@g:h", "a:b#c@d:e@g#f", "a:b#c@d:e#@f", "a:b#c@d:e#f@",
	"a::b#c@d:e", "a:b:#c@d:e", "a:b#c:@d:e", "a:b#:c@d:e", "a:b#c@d::e", "a:b#c@:d:e", "a:b#c@d:e:", "a:b#c@d:e#f:g", "a:x:b#c@d:e", "a:b#a:b#c@d:e", "a:b#c@a:b#c@d:e",
	// What stands in another place.
	"a:b@c#d:e", "a@b#c:d", "@a:b#cd:e", "#a:bc@d:e", "a#:b@c:d", "a:b#cd@:e", "a:b#cd:@e", "a:b#cd:e@", "d:e@c#a:b", "a:bc@d:e#f", "a#c:b@d:e", "c@d:e#a:b", "a:b#c@#d:e", "a:b#c@d#:e", "a:b#c@d#f:e", "a:b@d:e#c", "ab:#c@d:e", "a:b#:@d:e",
	// A set's # behind the @, and none ahead of it.
	"a:b@d:e#f", "@d:e#f", "a@d:e#f", "a:bc@d:e#f", "a:b:c@d:e#f", "doc:readme@group:eng#member", "doc:readmeviewer@group:eng#member",
	// Pieces that aren't good.
	"A:b#c@d:e", "9:b#c@d:e", "_a:b#c@d:e", "*:b#c@d:e", "a-b:b#c@d:e", "\u00e4:b#c@d:e", " a:b#c@d:e", "a :b#c@d:e",
	"a:*#c@d:e", "a:**#c@d:e", "a:b*#c@d:e", "a: b#c@d:e", "a:b #c@d:e", "a:b c#c@d:e", "a:b,c#c@d:e", "a:(b)#c@d:e", "a:b;#c@d:e", `a:"b"#c@d:e`, `a:b\#c@d:e`, "a:b\n#c@d:e", "a:b\x00#c@d:e", "a:b\u00a0#c@d:e", "a:b\u007f#c@d:e",
	"a:b#C@d:e", "a:b#9@d:e", "a:b#_@d:e", "a:b#*@d:e", "a:b#c @d:e", "a:b# c@d:e", "a:b#c-d@d:e", "a:b#\u00e4@d:e", "a:b#c.@d:e",
	"a:b#c@D:e", "a:b#c@9:e", "a:b#c@*:e", "a:b#c@*:*", "a:b#c@*", "a:b#c@ d:e", "a:b#c@d :e", "a:b#c@\u00e4:e",
	"a:b#c@d:**", "a:b#c@d:*e", "a:b#c@d:e*", "a:b#c@d:*#f", "a:b#c@d:*#", "a:b#c@d: e", "a:b#c@d:e ", "a:b#c@d:e\n", "a:b#c@d:e f", "a:b#c@d:(e)", "a:b#c@d:e,f:g", "a:b#c@d:e;",
	"a:b#c@d:e#F", "a:b#c@d:e#9", "a:b#c@d:e#*", "a:b#c@d:e# f", "a:b#c@d:e#f ", "a:b#c@d:e#\u00e4", "a:b#c@d:e #f",
	`"a:b#c@d:e"`, "(a:b#c@d:e)", "a:b#c@d:e,", "a:b#c@d:e a:b#c@d:e", "a:b#c@d:e\na:b#c@d:e",
	// Bytes that are no part of a rune's form.
	"\xffa:b#c@d:e", "a\xff:b#c@d:e", "a:\xff#c@d:e", "a:\xffb#c@d:e", "a:b\xff#c@d:e", "a:b\xc3#c@d:e", "a:b#\xffc@d:e", "a:b#c\xff@d:e", "a:b#\xff@d:e", "a:b#c@\xffd:e", "a:b#c@d\xff:e", "a:b#c@d:\xff", "a:b#c@d:\xffe", "a:b#c@d:e\xff", "a:b#c@d:e\xc3", "a:b#c@d:e\xe2\x82", "a:b#c@d:e\xff#f", "a:b#c@d:e#\xff", "a:b#c@d:e#f\xff",
	"a:\xed\xa0\x80#c@d:e", "a:b#c@d:\xed\xa0\x80", "\xff", "\xff#\xff@\xff", "\xff:\xff#\xff@\xff:\xff#\xff",
	"a:b\xc0\xa3c@d:e", "a:b#c\xc1\x80d:e", "a:b#c@d:e\xc0\xa3f", "a\xc0\xbab#c@d:e", // too long forms of the signs
	"a:b\uff03c@d:e", "a:b#c\uff20d:e", "a\uff1ab#c@d:e", // what looks like the signs
	// One too many.
	name16 + "n:b#c@d:e", "a:" + id24 + "\u00e4#c@d:e", "a:b#" + name16 + "n@d:e", "a:b#c@" + name16 + "n:e", "a:b#c@" + name16 + "n:*", "a:b#c@d:" + id24 + "\u00e4", "a:b#c@d:e#" + name16 + "n",
	strings.Repeat("#", 1<<20), strings.Repeat("@", 1<<20), strings.Repeat("#@", 1<<19), strings.Repeat("a:b#c@d:e", 1<<17), "a:b#c@d:" + strings.Repeat("\xff", 1<<20), strings.Repeat("a", 1<<20) + "#c@d:e", "a:b#" + strings.Repeat("c", 1<<20) + "@d:e",
}

// badTuples goes through tuples of which one field, or more, isn't good.
func badTuples(visit func(t api.Tuple)) {
	visit(api.Tuple{})
	names := []string{"", "A", "9", "_", "*", "a-", "a b", "\u00e4", "\xff", "a:b", "a#b", "a@b", name16 + "n"}
	for _, s := range names {
		visit(tuple(s, "b", "c", "d", "e", "f"))
		visit(tuple("a", "b", s, "d", "e", "f"))
		visit(tuple("a", "b", "c", s, "e", "f"))
		visit(tuple("a", "b", "c", s, "*", ""))
		if s != "" {
			visit(tuple("a", "b", "c", "d", "e", s))
		}
	}
	for _, s := range []string{"", "**", "a*", " ", "a b", "a:b", "a#b", "a@b", "(", "\xff", "a\xc3", "\xed\xa0\x80", "\u00a0", id24 + "a"} {
		visit(tuple("a", s, "c", "d", "e", "f"))
		visit(tuple("a", "b", "c", "d", s, ""))
		visit(tuple("a", "b", "c", "d", s, "f"))
	}
	visit(tuple("a", "*", "c", "d", "e", ""))  // all of a type is no object
	visit(tuple("a", "b", "c", "d", "*", "f")) // nor has it a relation
	visit(tuple("a", "b", "c", "", "", ""))
	visit(tuple("", "", "", "d", "e", "f"))
}

// joined goes through all texts of up to that many of the pieces.
func joined(pieces []string, most int, visit func(s string)) {
	last := []string{""}
	visit("")
	for range most {
		var next []string
		for _, s := range last {
			for _, p := range pieces {
				visit(s + p)
				next = append(next, s+p)
			}
		}
		last = next
	}
}

func TestP3_1Good(t *testing.T) {
	for s, x := range texts {
		if !bond.Good(x) {
			t.Errorf("Good(%q): false", s)
		}
	}
	badTuples(func(x api.Tuple) {
		if bond.Good(x) {
			t.Errorf("Good(%q): true", x)
		}
	})
}

// R7: of any. Each word of the order goes ahead of those behind it.
func TestP3_1Compare(t *testing.T) {
	var rising []api.Tuple
	words := []string{"", "a", "\xff"}
	for _, typ := range words {
		for _, id := range words {
			for _, relation := range words {
				for _, x := range words {
					for _, y := range words {
						for _, z := range words {
							rising = append(rising, tuple(typ, id, relation, x, y, z))
						}
					}
				}
			}
		}
	}
	for i, a := range rising {
		for k, b := range rising {
			want := 0
			if i < k {
				want = -1
			} else if i > k {
				want = 1
			}
			if got := bond.Compare(a, b); got != want {
				t.Fatalf("Compare(%q, %q): %d, want %d", a, b, got, want)
			}
		}
	}
}

func TestP3_1CompareOfTuplesThatDifferInOneField(t *testing.T) {
	base := tuple("m", "m", "m", "m", "m", "m")
	words := []string{"", "\x00", "*", "A", "a", "l\xff", "m", "m\x00", "m!", "ma", "n", "\u00e4", "\uffff", "\U00010000", "\xff"}
	for _, set := range []func(x *api.Tuple, s string){
		func(x *api.Tuple, s string) { x.Type = s },
		func(x *api.Tuple, s string) { x.Id = s },
		func(x *api.Tuple, s string) { x.Relation = s },
		func(x *api.Tuple, s string) { x.Subject.Type = s },
		func(x *api.Tuple, s string) { x.Subject.Id = s },
		func(x *api.Tuple, s string) { x.Subject.Relation = s },
	} {
		for _, v := range words {
			for _, w := range words {
				a, b := base, base
				set(&a, v)
				set(&b, w)
				if got, want := bond.Compare(a, b), strings.Compare(v, w); got != want {
					t.Errorf("Compare(%q, %q): %d, want %d", a, b, got, want)
				}
			}
		}
	}
	// The order isn't that of the texts: no sign is held against a letter.
	for _, c := range [][2]string{
		{"a:z#c@d:e", "aa:b#c@d:e"},
		{"a:b#z@d:e", "a:b!#c@d:e"},
		{"a:b#c@z:e", "a:b#c0@d:e"},
		{"a:b#c@d:z", "a:b#c@d0:e"},
		{"a:b#c@d:e#z", "a:b#c@d:e!"},
		{"a:b#c@d:*", "a:b#c@d:+"},
		{"a:b#c@d:e", "a:b#c@d:e#a"},
		{"a:b#c@d:e#f", "a:b#c@d:e#g"},
	} {
		a, b := read(t, c[0]), read(t, c[1])
		if bond.Compare(a, b) != -1 || bond.Compare(b, a) != 1 {
			t.Errorf("Compare(%q, %q): %d, %d", a, b, bond.Compare(a, b), bond.Compare(b, a))
		}
	}
}

func read(t *testing.T, s string) api.Tuple {
	t.Helper()
	x, e := bond.Read(s)
	if e != api.OK {
		t.Fatalf("Read(%q): %d", s, e)
	}
	return x
}

func TestP3_1Text(t *testing.T) {
	for want, x := range texts {
		if got := bond.Text(x); got != want {
			t.Errorf("Text(%q): %q, want %q", x, got, want)
		}
	}
}

func TestP3_1Read(t *testing.T) {
	for s, want := range texts {
		if got, e := bond.Read(s); got != want || e != api.OK {
			t.Errorf("Read(%q): %q, %d", s, got, e)
		}
	}
	for _, s := range nobodys {
		if got, e := bond.Read(s); got != (api.Tuple{}) || e != api.ErrForm {
			t.Errorf("Read(%.40q): %q, %d", s, got, e)
		}
	}
}

func TestP3_1Rising(t *testing.T) {
	a, b, c := tuple("a", "b", "c", "d", "e", ""), tuple("a", "b", "c", "d", "e", "f"), tuple("a", "b", "c", "d", "f", "")
	none, bad, last := api.Tuple{}, tuple("A", "*", "", "", "", "\xff"), tuple("\xff", "", "", "", "", "")
	for _, l := range [][]api.Tuple{
		nil, {}, {a}, {none}, {last}, {a, b}, {a, c}, {b, c}, {a, b, c},
		{none, bad}, {none, bad, a, b, c, last}, {tuple("", "", "", "", "", "a"), tuple("", "", "", "", "a", "")}, // R7: of any
	} {
		if !bond.Rising(l) {
			t.Errorf("Rising(%q): false", l)
		}
	}
	for _, l := range [][]api.Tuple{
		{a, a}, {none, none}, {b, a}, {c, b}, {c, a}, {a, a, b}, {a, b, b}, {a, b, c, c}, {a, a, a},
		{b, a, c}, {a, c, b}, {c, b, a}, {a, b, c, a}, {b, c, a}, {c, a, b}, {bad, none}, {last, a}, {a, last, last}, {a, none}, {a, b, none},
	} {
		if bond.Rising(l) {
			t.Errorf("Rising(%q): true", l)
		}
	}
	// What stands behind a list's end is none of it.
	l := []api.Tuple{a, b, a}
	if !bond.Rising(l[:2]) {
		t.Error("Rising looks at spare room")
	}
}

func TestP3_1RisingOfEachLength(t *testing.T) {
	var l []api.Tuple
	for i := range 200 {
		l = append(l, tuple("a", strings.Repeat("b", i+1), "c", "d", "e", ""))
	}
	for n := range len(l) + 1 {
		if !bond.Rising(l[:n]) {
			t.Errorf("Rising of %d: false", n)
		}
	}
	for i := range len(l) - 1 {
		l[i], l[i+1] = l[i+1], l[i]
		if bond.Rising(l) {
			t.Errorf("Rising, %d ahead of its neighbour: true", i+1)
		}
		l[i], l[i+1] = l[i+1], l[i]
		x := l[i]
		l[i] = l[i+1]
		if bond.Rising(l) {
			t.Errorf("Rising, %d twice: true", i)
		}
		l[i] = x
	}
}

func TestP3_2ReadAnswersOfEachTextTheTuple(t *testing.T) {
	check := func(x api.Tuple) {
		if got, e := bond.Read(bond.Text(x)); got != x || e != api.OK {
			t.Errorf("Read of %q's text: %q, %d", x, got, e)
		}
	}
	for _, x := range texts {
		check(x)
	}
	names, ids := []string{"a", "b_9", name16}, []string{"a", "A.-", "\u00e4", "\ufffd", id24}
	for _, typ := range names {
		for _, id := range ids {
			for _, relation := range names {
				for _, subject := range names {
					for _, who := range ids {
						check(tuple(typ, id, relation, subject, who, ""))
						check(tuple(typ, id, relation, subject, who, relation))
					}
					check(tuple(typ, id, relation, subject, "*", ""))
				}
			}
		}
	}
}

func TestP3_2ReadAnswersOfNoOtherText(t *testing.T) {
	found := 0
	check := func(s string) {
		x, e := bond.Read(s)
		if e == api.OK {
			found++
		}
		if e == api.OK && (!bond.Good(x) || bond.Text(x) != s) || e != api.OK && (e != api.ErrForm || x != (api.Tuple{})) {
			t.Fatalf("Read(%q): %q, %d", s, x, e)
		}
	}
	joined([]string{":", "#", "@", "a", "*"}, 8, check)
	joined([]string{":a", "a", "#a", "@a", "#", "@", ":", "a:", "\xff", "A"}, 6, check)
	joined([]string{"a:b", "#c", "@", "d:e", "d:*", "#", "a"}, 6, check)
	// One byte more, less or other makes a text another tuple's, or nobody's.
	for s := range texts {
		for i := range len(s) + 1 {
			for _, r := range []string{"", "a", "A", ":", "#", "@", "*", " ", "\xff"} {
				check(s[:i] + r + s[i:])
				if i < len(s) {
					check(s[:i] + r + s[i+1:])
				}
			}
		}
	}
	if found < 1000 {
		t.Errorf("only %d texts of good tuples were looked at", found)
	}
}
