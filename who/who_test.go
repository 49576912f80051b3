package who_test

import (
	"strings"
	"testing"
	"unsafe"

	"stile/api"
	"stile/who"
)

func subject(typ, id, relation string) api.Subject {
	return api.Subject{Type: typ, Id: id, Relation: relation}
}

// kinds of subjects.
const (
	bad = iota
	one
	set
	all
)

// subjects are written out with their kinds, good ones and others.
var subjects = map[api.Subject]int{
	subject("user", "ann", ""):                                            one,
	subject("a", "b", ""):                                                 one,
	subject("a_9", "A-1.b/c", ""):                                         one,
	subject("user", "\u00e4", ""):                                         one,
	subject("user", "\ufffd", ""):                                         one, // what stray bytes are taken for
	subject("user", "e\u0301", ""):                                        one,
	subject(strings.Repeat("a", 16), "b", ""):                             one,
	subject("a", strings.Repeat("b", 24), ""):                             one,
	subject("a", strings.Repeat("\U0001f600", 24), ""):                    one,
	subject("a", strings.Repeat("\u00e4", 23)+"\ufffd", ""):               one,
	subject("group", "eng", "member"):                                     set,
	subject("a", "b", "c"):                                                set,
	subject("a", "b", strings.Repeat("c", 16)):                            set,
	subject(strings.Repeat("a", 16), "b", strings.Repeat("c", 16)):        set,
	subject("a", strings.Repeat("\u4e2d", 24), strings.Repeat("c", 16)):   set,
	subject("user", "*", ""):                                              all,
	subject("a", "*", ""):                                                 all,
	subject(strings.Repeat("a", 16), "*", ""):                             all,
	subject("", "", ""):                                                   bad,
	subject("", "ann", ""):                                                bad,
	subject("", "*", ""):                                                  bad,
	subject("", "eng", "member"):                                          bad,
	subject("", "", "member"):                                             bad,
	subject("user", "", ""):                                               bad,
	subject("group", "", "member"):                                        bad,
	subject("user", "*", "member"):                                        bad,
	subject("user", "*", "M"):                                             bad,
	subject("user", "**", ""):                                             bad,
	subject("user", "*a", ""):                                             bad,
	subject("user", "a*", ""):                                             bad,
	subject("*", "ann", ""):                                               bad,
	subject("*", "*", ""):                                                 bad,
	subject("group", "eng", "*"):                                          bad,
	subject("User", "ann", ""):                                            bad,
	subject("User", "*", ""):                                              bad,
	subject("9user", "ann", ""):                                           bad,
	subject("_user", "ann", ""):                                           bad,
	subject("us er", "ann", ""):                                           bad,
	subject("\u00e4", "ann", ""):                                          bad,
	subject("us\xff", "ann", ""):                                          bad,
	subject("us\xff", "*", ""):                                            bad,
	subject("group", "eng", "Member"):                                     bad,
	subject("group", "eng", "9m"):                                         bad,
	subject("group", "eng", "_m"):                                         bad,
	subject("group", "eng", "m\u00e4"):                                    bad,
	subject("group", "eng", "m\xff"):                                      bad,
	subject("group", "eng", " "):                                          bad,
	subject("user", "a b", ""):                                            bad,
	subject("user", "a\x00", ""):                                          bad,
	subject("user", "a\u00a0", ""):                                        bad,
	subject("user", "a@b", ""):                                            bad,
	subject("user", "a:b", ""):                                            bad,
	subject("user", "a#b", ""):                                            bad,
	subject("user", "a;", ""):                                             bad,
	subject("user", "\xff", ""):                                           bad,
	subject("user", "a\xc3", ""):                                          bad,
	subject("user", "\xed\xa0\x80", ""):                                   bad,
	subject("user", "\xff", "member"):                                     bad,
	subject("a:b", "c", ""):                                               bad,
	subject("a#b", "c", ""):                                               bad,
	subject("group", "eng", "a:b"):                                        bad,
	subject("group", "eng", "a#b"):                                        bad,
	subject(strings.Repeat("a", 17), "b", ""):                             bad,
	subject(strings.Repeat("a", 17), "*", ""):                             bad,
	subject(strings.Repeat("a", 17), "b", "c"):                            bad,
	subject("a", strings.Repeat("b", 25), ""):                             bad,
	subject("a", strings.Repeat("b", 25), "c"):                            bad,
	subject("a", strings.Repeat("\U0001f600", 25), ""):                    bad,
	subject("a", strings.Repeat("b", 23)+"\xff", ""):                      bad,
	subject("a", "b", strings.Repeat("c", 17)):                            bad,
	subject(strings.Repeat("a", 1<<16), strings.Repeat("b", 1<<16), "c"):  bad,
	subject("a", strings.Repeat("\xff", 1<<16), strings.Repeat("#", 100)): bad,
}

// texts are those of good subjects, each with its own.
var texts = map[string]api.Subject{
	"user:ann":                              subject("user", "ann", ""),
	"a:b":                                   subject("a", "b", ""),
	"a:b#c":                                 subject("a", "b", "c"),
	"a:*":                                   subject("a", "*", ""),
	"user:*":                                subject("user", "*", ""),
	"group:eng#member":                      subject("group", "eng", "member"),
	"user:\u00e4":                           subject("user", "\u00e4", ""),
	"user:\ufffd#m":                         subject("user", "\ufffd", "m"),
	"a_9:A-1.b/c#m_9":                       subject("a_9", "A-1.b/c", "m_9"),
	"a:'{}[]<>|=+-!?&%$~^`":                 subject("a", "'{}[]<>|=+-!?&%$~^`", ""),
	"user:ann\uff03a":                       subject("user", "ann\uff03a", ""), // what looks like a #
	strings.Repeat("a", 16) + ":b":          subject(strings.Repeat("a", 16), "b", ""),
	"a:" + strings.Repeat("b", 24):          subject("a", strings.Repeat("b", 24), ""),
	"a:" + strings.Repeat("\u00e4", 24):     subject("a", strings.Repeat("\u00e4", 24), ""),
	"a:b#" + strings.Repeat("c", 16):        subject("a", "b", strings.Repeat("c", 16)),
	"a:\U0010ffff\uffff\ue000\u00a1\u07ff!": subject("a", "\U0010ffff\uffff\ue000\u00a1\u07ff!", ""),
}

// nobodys are texts of no good subject, most of them nearly one's.
var nobodys = []string{
	"", ":", "#", ":#", "#:", "::", "##", ":::", "@", "*", "user", "ann#member", "user#ann", "user#ann:member", "#user:ann", "#:ann",
	"user:", ":ann", ":ann#member", "user:#member", ":#member", ":*", "*:*", "*:ann", "*:", "#member", "user#", "user#:",
	"user:ann#", "user:*#", "user:*#member", "user:*#M", "user:**", "user:*a", "user:a*", "user:ann#*",
	"user::ann", "user:ann:", ":user:ann", "user:a:b", "user:a:b#c", "user:ann#a:b", "user:ann#:b", "user:ann#a:", "user:ann:#a",
	"user:ann##", "user:ann##a", "user:ann#a#", "user:ann#a#b", "us#er:ann", "us#er:ann#a", "#user:ann#a", "user:#ann", "user:#", "user#:ann",
	"user:ann#M", "user:ann#9", "user:ann#_", "user:ann#\u00e4", "user:ann# a", "user:ann#a ", "user:ann #a",
	"User:ann", "9:ann", "_:ann", "us-er:ann", "\u00e4:ann", "user :ann", " user:ann", "user:ann ", "user: ann", "user:a b", "user:a\nb", "user:ann\n", "user:ann\x00",
	"user:a@b", "doc:readme#viewer@user:ann", "user:ann@", "@user:ann", "user:a,b", "user:(a)", "user:a;", `user:"a"`, `user:a\b`, `"user:ann"`,
	"us\xffer:ann", "user:\xff", "user:ann\xff", "\xffuser:ann", "user\xff:ann", "user:ann\xff#a", "user:ann#\xff", "user:ann#a\xff", "user:a\xc3", "user:a\xc3#a", "user:\xed\xa0\x80",
	"user\xc0\xbaann", "user:ann\xc0\xa3a", // too long forms of a colon and a #
	"user\uff1aann", "user\u2236ann", // what looks like a colon
	"user:a\u00a0", "user:\u007f", "user:\u0080",
	strings.Repeat("a", 17) + ":b", strings.Repeat("a", 17) + ":b#c", strings.Repeat("a", 17) + ":*", "a:" + strings.Repeat("b", 25), "a:" + strings.Repeat("\u00e4", 25), "a:" + strings.Repeat("b", 25) + "#c", "a:b#" + strings.Repeat("c", 17),
	strings.Repeat("a", 1<<20), strings.Repeat(":", 1<<20), strings.Repeat("#", 1<<20), strings.Repeat("a:b#", 1<<18), "a:" + strings.Repeat("\xff", 1<<20),
}

// kind: what One, Set and All tell together; -1, if more than one of them does.
func kind(s api.Subject) int {
	found := bad
	for k, is := range map[int]bool{one: who.One(s), set: who.Set(s), all: who.All(s)} {
		if is && found != bad {
			return -1
		}
		if is {
			found = k
		}
	}
	return found
}

// good goes through the good subjects of both lists.
func good(visit func(s api.Subject)) {
	for s, k := range subjects {
		if k != bad {
			visit(s)
		}
	}
	for _, s := range texts {
		visit(s)
	}
}

// joined goes through all texts of up to six pieces that make or break one.
func joined(visit func(s string)) {
	pieces := []string{":", "#", "*", "a", "_", "A", "\u00e4", "\xff", " "}
	last := []string{""}
	visit("")
	for range 6 {
		var next []string
		for _, s := range last {
			for _, p := range pieces {
				visit(s + p)
				next = append(next, s+p)
			}
		}
		last = next
	}
}

func TestP2_1Good(t *testing.T) {
	for s, k := range subjects {
		if s.Relation != "" {
			continue
		}
		if got := who.Good(api.Object{Type: s.Type, Id: s.Id}); got != (k == one) {
			t.Errorf("Good(%q, %q): %v", s.Type, s.Id, got)
		}
	}
}

func TestP2_1KindsOfSubjects(t *testing.T) {
	for s, want := range subjects {
		if who.One(s) != (want == one) || who.Set(s) != (want == set) || who.All(s) != (want == all) || who.Subject(s) != (want != bad) {
			t.Errorf("%q: One %v, Set %v, All %v, Subject %v", s, who.One(s), who.Set(s), who.All(s), who.Subject(s))
		}
	}
}

func TestP2_1OfAndObject(t *testing.T) {
	// R7: of any.
	for s := range subjects {
		o := api.Object{Type: s.Type, Id: s.Id}
		if got := who.Object(s); got != o {
			t.Errorf("Object(%q): %q", s, got)
		}
		if got := who.Of(o, s.Relation); got != s {
			t.Errorf("Of(%q, %q): %q", o, s.Relation, got)
		}
	}
	if got := who.Of(api.Object{Type: "a", Id: "b"}, "c"); got != subject("a", "b", "c") {
		t.Errorf("Of: %q", got)
	}
}

func TestP2_1Compare(t *testing.T) {
	// R7: of any. Each word of the order goes ahead of those behind it.
	words := []string{"", "\x00", "*", "A", "a", "a\x00", "aa", "b", "\u00e4", "\uffff", "\U00010000", "\xff"}
	var rising []api.Subject
	for _, typ := range words {
		for _, id := range words {
			for _, relation := range words {
				rising = append(rising, subject(typ, id, relation))
			}
		}
	}
	for i, a := range rising {
		for k, b := range rising {
			want := 0
			if i < k {
				want = -1
			} else if i > k {
				want = 1
			}
			if got := who.Compare(a, b); got != want {
				t.Fatalf("Compare(%q, %q): %d, want %d", a, b, got, want)
			}
		}
	}
	for _, c := range []struct{ a, b api.Subject }{
		{subject("a", "z", "z"), subject("b", "a", "")},
		{subject("a", "b", "z"), subject("a", "c", "")},
		{subject("a", "b", ""), subject("a", "b", "a")},
		{subject("a", "b", "c"), subject("a", "b", "d")},
		{subject("a", "*", ""), subject("a", "b", "")},
		{subject("a", "z", ""), subject("aa", "b", "")}, // : isn't held against a
		{subject("a", "b", "z"), subject("a", "b!", "")},
	} {
		if who.Compare(c.a, c.b) != -1 || who.Compare(c.b, c.a) != 1 {
			t.Errorf("Compare(%q, %q): %d, %d", c.a, c.b, who.Compare(c.a, c.b), who.Compare(c.b, c.a))
		}
	}
}

func TestP2_1Text(t *testing.T) {
	for want, s := range texts {
		if got := who.Text(s); got != want {
			t.Errorf("Text(%q): %q, want %q", s, got, want)
		}
	}
}

func TestP2_1Read(t *testing.T) {
	for s, want := range texts {
		if got, e := who.Read(s); got != want || e != api.OK {
			t.Errorf("Read(%q): %q, %d", s, got, e)
		}
	}
	for _, s := range nobodys {
		if got, e := who.Read(s); got != (api.Subject{}) || e != api.ErrForm {
			t.Errorf("Read(%.40q): %q, %d", s, got, e)
		}
	}
}

func TestP2_1ReadObject(t *testing.T) {
	for s, x := range texts {
		want, fault := api.Object{Type: x.Type, Id: x.Id}, api.OK
		if x.Relation != "" || x.Id == "*" {
			want, fault = api.Object{}, api.ErrForm
		}
		if got, e := who.ReadObject(s); got != want || e != fault {
			t.Errorf("ReadObject(%q): %q, %d", s, got, e)
		}
	}
	for _, s := range nobodys {
		if got, e := who.ReadObject(s); got != (api.Object{}) || e != api.ErrForm {
			t.Errorf("ReadObject(%.40q): %q, %d", s, got, e)
		}
	}
	joined(func(s string) {
		o, e := who.ReadObject(s)
		x, f := who.Read(s)
		if (e == api.OK) != (f == api.OK && kind(x) == one) || e == api.OK && (!who.Good(o) || who.Of(o, "") != x) || e != api.OK && (e != api.ErrForm || o != (api.Object{})) {
			t.Fatalf("ReadObject(%q): %q, %d", s, o, e)
		}
	})
}

func TestP2_2AGoodSubjectIsJustOneOfTheThree(t *testing.T) {
	for s := range subjects {
		if k := kind(s); k < 0 || who.Subject(s) != (k != bad) {
			t.Errorf("%q: kind %d, Subject %v", s, k, who.Subject(s))
		}
	}
	words := []string{"", "*", "**", "a", "a*", "A", "\u00e4", "\xff", " ", ":", "#", strings.Repeat("a", 16), strings.Repeat("a", 17), strings.Repeat("a", 24), strings.Repeat("a", 25)}
	for _, typ := range words {
		for _, id := range words {
			for _, relation := range words {
				s := subject(typ, id, relation)
				if k := kind(s); k < 0 || who.Subject(s) != (k != bad) {
					t.Errorf("%q: kind %d, Subject %v", s, k, who.Subject(s))
				}
			}
		}
	}
}

func TestP2_3ReadAnswersOfEachTextTheSubject(t *testing.T) {
	good(func(s api.Subject) {
		if got, e := who.Read(who.Text(s)); got != s || e != api.OK {
			t.Errorf("Read of %q's text: %q, %d", s, got, e)
		}
		o, e := who.ReadObject(who.Text(who.Of(who.Object(s), "")))
		if s.Id != "*" && (o != who.Object(s) || e != api.OK) || s.Id == "*" && e != api.ErrForm {
			t.Errorf("ReadObject of the text of %q's object: %q, %d", s, o, e)
		}
	})
}

func TestP2_3ReadAnswersOfNoOtherText(t *testing.T) {
	check := func(s string) {
		x, e := who.Read(s)
		if e == api.OK && (!who.Subject(x) || who.Text(x) != s) || e != api.OK && (e != api.ErrForm || x != (api.Subject{})) {
			t.Fatalf("Read(%q): %q, %d", s, x, e)
		}
	}
	joined(check)
	// One byte more, less or other makes a text another subject's, or nobody's.
	for s := range texts {
		for i := range len(s) + 1 {
			for _, r := range []string{"", "a", "A", ":", "#", "*", " ", "\xff"} {
				check(s[:i] + r + s[i:])
				if i < len(s) {
					check(s[:i] + r + s[i+1:])
				}
			}
		}
	}
}

// R7 allows Text good subjects only; here it is called of others too, for no
// call may ever panic.
func TestP9EveryCallEnds(t *testing.T) {
	calls := func(s api.Subject) {
		o := who.Object(s)
		who.Good(o)
		who.Subject(s)
		kind(s)
		who.Of(o, s.Relation)
		who.Compare(s, subject(s.Relation, s.Type, s.Id))
		who.Text(s)
		who.Read(who.Text(s))
		who.ReadObject(who.Text(s))
	}
	for s := range subjects {
		calls(s)
	}
	joined(func(s string) {
		calls(subject(s, s, s))
		who.Read(s)
		who.ReadObject(s)
	})
	for _, s := range nobodys {
		calls(subject(s, s, s))
		who.Read(s)
		who.ReadObject(s)
	}
	for a := range 256 {
		for b := range 256 {
			s := string([]byte{byte(a), byte(b)})
			who.Read("a:" + s)
			who.Read("a" + s + "b")
			who.ReadObject(s + ":" + s)
		}
	}
}

func TestP10ErrorsStandAlone(t *testing.T) {
	for _, s := range nobodys {
		if x, e := who.Read(s); e == api.OK || x != (api.Subject{}) {
			t.Errorf("R3: Read(%.40q): %q, %d", s, x, e)
		}
		if o, e := who.ReadObject(s); e == api.OK || o != (api.Object{}) {
			t.Errorf("R3: ReadObject(%.40q): %q, %d", s, o, e)
		}
	}
	for _, s := range []string{"group:eng#member", "user:*"} {
		if o, e := who.ReadObject(s); e != api.ErrForm || o != (api.Object{}) {
			t.Errorf("R3: ReadObject(%q): %q, %d", s, o, e)
		}
	}
}

// shares: has b a byte of a's memory?
func shares(a, b string) bool {
	if a == "" || b == "" {
		return false
	}
	from, to := uintptr(unsafe.Pointer(unsafe.StringData(a))), uintptr(unsafe.Pointer(unsafe.StringData(b)))
	return from < to+uintptr(len(b)) && to < from+uintptr(len(a))
}

func TestP10AnswersAreNewMemory(t *testing.T) {
	for s, x := range texts {
		got, _ := who.Read(s)
		o, _ := who.ReadObject(s)
		for _, piece := range []string{got.Type, got.Id, got.Relation, o.Type, o.Id} {
			if shares(s, piece) {
				t.Errorf("R6: the answer of %q shares memory with it", s)
			}
		}
		text, of, object := who.Text(x), who.Of(api.Object{Type: x.Type, Id: x.Id}, x.Relation), who.Object(x)
		for _, a := range []string{x.Type, x.Id, x.Relation} {
			for _, b := range []string{text, of.Type, of.Id, of.Relation, object.Type, object.Id} {
				if shares(a, b) {
					t.Errorf("R6: an answer of %q shares memory with it", x)
				}
			}
		}
	}
}

func TestP10AnswersHangOnArgumentsAlone(t *testing.T) {
	type answers struct {
		x    api.Subject
		o    api.Object
		e, f api.Errno
		kind int
		text string
		rank int
	}
	ask := func(s string) answers {
		a := answers{}
		a.x, a.e = who.Read(s)
		a.o, a.f = who.ReadObject(s)
		a.kind, a.text, a.rank = kind(a.x), who.Text(a.x), who.Compare(a.x, subject("group", "", ""))
		return a
	}
	list := append([]string{}, nobodys...)
	for s := range texts {
		list = append(list, s)
	}
	var first []answers
	for _, s := range list {
		first = append(first, ask(s))
	}
	for i := len(list) - 1; i >= 0; i-- {
		if ask(strings.Clone(list[i])) != first[i] {
			t.Errorf("R8: %.40q: another answer the second time", list[i])
		}
	}
}
