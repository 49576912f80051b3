package lot_test

import (
	"fmt"
	"strings"
	"testing"

	"stile/api"
	"stile/bond"
	"stile/grammar"
	"stile/lint"
	"stile/lot"
)

// sound is the configuration of a text.
func sound(t *testing.T, s string) api.Config {
	t.Helper()
	c, at, e := grammar.Parse(s)
	if e != api.OK {
		t.Fatalf("Parse(%q): %v, %d", s, at, e)
	}
	if _, at, e := lint.Check(c); e != api.OK {
		t.Fatalf("Check(%q): %v, %d", s, at, e)
	}
	return c
}

func tuple(typ, id, relation, subjectType, subjectId, subjectRelation string) api.Tuple {
	return api.Tuple{Type: typ, Id: id, Relation: relation, Subject: api.Subject{Type: subjectType, Id: subjectId, Relation: subjectRelation}}
}

func read(t *testing.T, s string) api.Tuple {
	t.Helper()
	x, e := bond.Read(s)
	if e != api.OK {
		t.Fatalf("Read(%q): %d", s, e)
	}
	return x
}

// fits: does Fit answer this, of a tuple's text?
func fits(t *testing.T, c api.Config, s string, want api.Errno) {
	t.Helper()
	if e := lot.Fit(c, read(t, s)); e != want {
		t.Errorf("Fit(%s): %d, want %d", s, e, want)
	}
}

// asks: does Known answer this, of a question written as a tuple is?
func asks(t *testing.T, c api.Config, s string, want api.Errno) {
	t.Helper()
	x := read(t, s)
	if e := lot.Known(c, api.Object{Type: x.Type, Id: x.Id}, x.Relation, x.Subject); e != want {
		t.Errorf("Known(%s): %d, want %d", s, e, want)
	}
}

// office has relations that allow each kind of subjects alone, all of them,
// and none; names stand in several types.
const office = `type user {} type bot {}
	type group { rel member [user, group#member] = this; rel lead [user] = this; rel any = member | lead; }
	type folder { rel parent [folder] = this; rel viewer [user, user:*, group#member] = this | parent->viewer; rel banned [user] = this; }
	type doc { rel parent [folder] = this; rel one [user] = this; rel all [user:*] = this; rel set [group#member] = this;
		rel both [group#member, group#any] = this; rel mixed [user, bot:*, group#any, doc#one, folder] = this - one; rel far = parent->viewer; rel viewer = far & (one | mixed) - all; }`

func TestP11_1Example(t *testing.T) {
	c := sound(t, "type user {} type group { rel member [user] = this; } type doc { rel viewer [user, group#member] = this; }")
	fits(t, c, "doc:a#viewer@user:b", api.OK)
	fits(t, c, "doc:a#viewer@user:*", api.ErrKind)
	fits(t, c, "doc:a#owner@user:b", api.ErrName)
	fits(t, c, "doc:a#viewer@group:b#member", api.OK)
}

func TestP11_1Fit(t *testing.T) {
	c := sound(t, office)
	for _, s := range []string{
		"doc:a#one@user:b", "doc:a#one@user:a", "doc:\u00e4#one@user:\u00e9", "doc:a#all@user:*", "doc:a#set@group:b#member", "doc:a#parent@folder:a", "folder:a#parent@folder:a",
		"doc:a#both@group:b#member", "doc:a#both@group:b#any", "doc:a#mixed@user:b", "doc:a#mixed@bot:*", "doc:a#mixed@group:b#any", "doc:a#mixed@doc:a#one", "doc:a#mixed@folder:b",
		"group:a#member@group:a#member", "group:a#member@user:b", "group:a#lead@user:b", "folder:a#viewer@user:b", "folder:a#viewer@user:*", "folder:a#viewer@group:b#member", "folder:a#banned@user:b",
	} {
		fits(t, c, s, api.OK)
	}
	for _, s := range []string{
		// Another kind of subjects than that which is allowed, of its type.
		"doc:a#one@user:*", "doc:a#one@user:b#member", "doc:a#one@user:b#one", "doc:a#all@user:b", "doc:a#all@user:b#all", "doc:a#set@group:b", "doc:a#set@group:*", "doc:a#set@group:b#lead", "doc:a#set@group:b#any", "doc:a#set@group:b#none",
		"doc:a#both@group:b", "doc:a#both@group:*", "doc:a#both@group:b#lead", "doc:a#mixed@user:*", "doc:a#mixed@bot:b", "doc:a#mixed@bot:b#any", "doc:a#mixed@group:b#member", "doc:a#mixed@group:b", "doc:a#mixed@doc:a", "doc:a#mixed@doc:a#any", "doc:a#mixed@user:b#any", "doc:a#mixed@folder:b#any", "doc:a#mixed@folder:*",
		"group:a#member@group:a", "group:a#member@group:*", "group:a#member@user:*", "group:a#lead@group:b#member", "folder:a#parent@folder:b#parent",
		// Another type.
		"doc:a#one@bot:b", "doc:a#one@doc:a", "doc:a#all@bot:*", "doc:a#set@doc:b#set", "doc:a#parent@doc:a", "folder:a#parent@doc:a", "folder:a#banned@group:b#member",
		// What allows nothing.
		"doc:a#far@user:b", "doc:a#far@user:*", "doc:a#far@folder:b#viewer", "doc:a#viewer@user:b", "doc:a#viewer@doc:b#one", "group:a#any@user:b", "group:a#any@group:b#member",
	} {
		fits(t, c, s, api.ErrKind)
	}
	for _, s := range []string{
		// No such type.
		"x:a#one@user:b", "x:a#one@x:b", "docs:a#one@user:b", "do:a#one@user:b", "one:a#doc@user:b",
		// No such relation of it, though of others.
		"doc:a#none@user:b", "doc:a#member@user:b", "doc:a#banned@user:b", "user:a#one@user:b", "bot:a#member@user:b", "folder:a#one@user:b", "group:a#viewer@user:b", "doc:a#ones@user:b", "doc:a#on@user:b", "doc:a#user@user:b", "doc:a#doc@user:b",
		// No such type of the subject, whatever is allowed.
		"doc:a#one@x:b", "doc:a#all@x:*", "doc:a#set@x:b#member", "doc:a#far@x:b", "doc:a#far@x:*", "doc:a#one@users:b", "doc:a#one@use:b", "doc:a#set@member:b#group", "doc:a#one@one:b",
		// The words that are no names of a type or a relation.
		"type:a#one@user:b", "doc:a#this@user:b", "doc:a#one@rel:b",
	} {
		fits(t, c, s, api.ErrName)
	}
	for _, s := range []string{"doc:a#one@user:b", "a:b#c@a:b"} {
		fits(t, api.Config{}, s, api.ErrName)
	}
}

// badTuples are tuples that aren't good, each by one field at least.
func badTuples() []api.Tuple {
	l := []api.Tuple{{}, tuple("doc", "*", "one", "user", "b", ""), tuple("doc", "a", "all", "user", "*", "one"), tuple("doc", "a", "set", "group", "*", "member")}
	for _, s := range []string{"", "A", "9a", "_", "*", "a b", "a#b", "a:b", "a@b", "a-", "\u00e4", "\xff", strings.Repeat("a", 17)} {
		l = append(l, tuple(s, "a", "one", "user", "b", ""), tuple("doc", "a", s, "user", "b", ""), tuple("doc", "a", "one", s, "b", ""), tuple("doc", "a", "one", s, "*", ""))
		if s != "" {
			l = append(l, tuple("doc", "a", "set", "group", "b", s), tuple("none", "a", "none", "none", "b", s))
		}
	}
	for _, s := range []string{"", "**", "a*", "a b", "a#b", "a:b", "a@b", "a,", "(a", "a;", `a"`, `a\`, "\x00", "\u00a0", "\xff", "\xed\xa0\x80", strings.Repeat("\u00e4", 25)} {
		l = append(l, tuple("doc", s, "one", "user", "b", ""), tuple("doc", "a", "one", "user", s, ""), tuple("doc", "a", "set", "group", s, "member"), tuple("none", s, "none", "none", "b", ""))
	}
	return l
}

// ErrForm goes ahead of all that a configuration says.
func TestP11_1FitOfTuplesThatArentGood(t *testing.T) {
	for _, c := range []api.Config{{}, sound(t, office)} {
		for _, x := range badTuples() {
			if e := lot.Fit(c, x); e != api.ErrForm {
				t.Errorf("Fit(%q): %d, want ErrForm", x, e)
			}
			if k := lot.Unfit(c, []api.Tuple{x}); k != 0 {
				t.Errorf("Unfit(%q): %d, want 0", x, k)
			}
		}
	}
}

func TestP11_1Limits(t *testing.T) {
	name, id := strings.Repeat("n", api.MaxName), strings.Repeat("\u00e4", api.MaxId)
	c := sound(t, fmt.Sprintf("type user {} type %s { rel %s [user, %s#%s] = this; }", name, name, name, name))
	fits(t, c, name+":"+id+"#"+name+"@user:"+id, api.OK)
	fits(t, c, name+":"+id+"#"+name+"@"+name+":"+id+"#"+name, api.OK)
	fits(t, c, name[1:]+":"+id+"#"+name+"@user:b", api.ErrName)
	fits(t, c, name+":"+id+"#"+name[1:]+"@user:b", api.ErrName)
	asks(t, c, name+":"+id+"#"+name+"@"+name+":"+id+"#"+name, api.OK)
	asks(t, c, name+":"+id+"#"+name+"@"+name+":"+id+"#"+name[1:], api.ErrName)
	// As many types, relations and kinds as may be; the last of each.
	s := "type a {} type b {} type c {} type d {} type e {} type f { "
	for k := range api.MaxRels - 1 {
		s += fmt.Sprintf("rel r%d = last; ", k)
	}
	c = sound(t, s+"rel last [a, b, c, d, f:*, e] = this; }")
	for _, x := range []string{"a:x", "b:x", "c:x", "d:x", "f:*", "e:x"} {
		fits(t, c, "f:x#last@"+x, api.OK)
		fits(t, c, "f:x#r6@"+x, api.ErrKind)
		fits(t, c, "f:x#r7@"+x, api.ErrName)
	}
	fits(t, c, "f:x#last@f:x", api.ErrKind)
	fits(t, c, "f:x#last@e:*", api.ErrKind)
}

func TestP11_1Unfit(t *testing.T) {
	c := sound(t, office)
	good := []string{"doc:a#one@user:b", "doc:a#all@user:*", "doc:a#set@group:b#member", "folder:a#parent@folder:a", "doc:a#mixed@bot:*", "doc:a#one@user:b"}
	bad := []api.Tuple{{}, read(t, "doc:a#one@user:*"), read(t, "doc:a#none@user:b"), read(t, "x:a#one@user:b"), read(t, "doc:a#one@x:b"), tuple("doc", "a", "one", "user", "", "")}
	for _, l := range [][]api.Tuple{nil, {}, make([]api.Tuple, 0, 3)} {
		if k := lot.Unfit(c, l); k != -1 {
			t.Errorf("Unfit of none: %d", k)
		}
	}
	var l []api.Tuple
	for n, s := range good {
		l = append(l, read(t, s))
		if k := lot.Unfit(c, l); k != -1 {
			t.Errorf("Unfit of %d that fit: %d", n+1, k)
		}
		if k := lot.Unfit(api.Config{}, l); k != 0 {
			t.Errorf("Unfit, of no type: %d", k)
		}
	}
	for _, x := range bad {
		for n := range len(l) + 1 {
			// The first one is told, whatever stands behind it.
			for _, rest := range [][]api.Tuple{l[n:], nil, {x}, bad, append(bad[:len(bad):len(bad)], l...)} {
				all := append(append(append([]api.Tuple{}, l[:n]...), x), rest...)
				if k := lot.Unfit(c, all); k != n {
					t.Errorf("Unfit of %q: %d, want %d", all, k, n)
				}
			}
		}
	}
	// What stands behind a list's end is none of it.
	if k := lot.Unfit(c, append(l, bad...)[:len(l)]); k != -1 {
		t.Errorf("Unfit looks at spare room: %d", k)
	}
	long := make([]api.Tuple, 10*api.MaxTuples)
	for k := range long {
		long[k] = tuple("doc", fmt.Sprint(k), "one", "user", "b", "")
	}
	if k := lot.Unfit(c, long); k != -1 {
		t.Errorf("Unfit of a long list: %d", k)
	}
	long[len(long)-1].Relation = "none"
	if k := lot.Unfit(c, long); k != len(long)-1 {
		t.Errorf("Unfit of a long list: %d, want %d", k, len(long)-1)
	}
}

func TestP11_1Known(t *testing.T) {
	c := sound(t, office)
	for _, s := range []string{
		// Whatever is allowed.
		"doc:a#one@user:b", "doc:a#one@bot:b", "doc:a#one@doc:a", "doc:a#all@user:b", "doc:a#far@user:b", "doc:a#viewer@folder:b", "doc:a#set@group:b", "group:b#any@folder:a",
		"doc:a#one@group:b#member", "doc:a#one@group:b#lead", "doc:a#far@group:b#any", "doc:a#viewer@doc:a#viewer", "doc:a#parent@folder:b#banned", "group:a#any@doc:b#far",
	} {
		asks(t, c, s, api.OK)
	}
	for _, s := range []string{
		"x:a#one@user:b", "doc:a#none@user:b", "doc:a#member@user:b", "group:a#viewer@user:b", "folder:a#one@user:b", "docs:a#one@user:b", "doc:a#ones@user:b", "doc:a#this@user:b", "bot:a#one@user:b", "user:b#one@user:b",
		"doc:a#one@x:b", "doc:a#one@users:b", "doc:a#one@type:b", "doc:a#one@one:b",
		// A set of a relation that its own type hasn't.
		"doc:a#one@user:b#member", "doc:a#one@group:b#one", "doc:a#one@group:b#viewer", "doc:a#set@group:b#members", "doc:a#one@doc:a#member", "doc:a#one@x:b#member", "x:a#one@group:b#member", "doc:a#none@group:b#member", "doc:a#one@bot:b#one",
	} {
		asks(t, c, s, api.ErrName)
	}
	for _, s := range []string{"doc:a#one@user:b", "a:b#c@a:b#c"} {
		asks(t, api.Config{}, s, api.ErrName)
	}
}

// ErrForm goes ahead of all that a configuration says. All of a type is a good
// subject, and none of a question.
func TestP11_1KnownOfQuestionsThatArentGood(t *testing.T) {
	l := append(badTuples(), read(t, "doc:a#all@user:*"), read(t, "doc:a#one@user:*"), read(t, "doc:a#far@user:*"), read(t, "x:a#all@user:*"), read(t, "doc:a#none@user:*"), read(t, "doc:a#all@x:*"))
	for _, c := range []api.Config{{}, sound(t, office)} {
		for _, x := range l {
			if e := lot.Known(c, api.Object{Type: x.Type, Id: x.Id}, x.Relation, x.Subject); e != api.ErrForm {
				t.Errorf("Known(%q): %d, want ErrForm", x, e)
			}
		}
	}
}

func TestP11_1Direct(t *testing.T) {
	c := sound(t, office)
	for s, want := range map[string]bool{
		"doc one": true, "doc all": true, "doc set": true, "doc both": true, "doc mixed": true, "doc parent": true, "folder parent": true, "folder viewer": true, "folder banned": true, "group member": true, "group lead": true,
		// There, but allowing nothing.
		"doc far": false, "doc viewer": false, "group any": false,
		// Not there.
		"doc none": false, "doc member": false, "doc banned": false, "group viewer": false, "user one": false, "bot one": false, "x one": false, "docs one": false, "doc ones": false, "one doc": false, "type one": false, "doc this": false,
		" ": false, "doc ": false, " one": false, "\xff \xff": false, "DOC one": false, "doc One": false, "doc one ": false, "doc one#member": false, "doc *": false, "* one": false,
	} {
		typ, relation, _ := strings.Cut(s, " ")
		if got := lot.Direct(c, typ, relation); got != want {
			t.Errorf("Direct(%q, %q): %v", typ, relation, got)
		}
		if lot.Direct(api.Config{}, typ, relation) {
			t.Errorf("Direct(%q, %q), of no type: true", typ, relation)
		}
	}
}
