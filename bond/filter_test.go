package bond_test

import (
	"slices"
	"strings"
	"testing"

	"stile/api"
	"stile/bond"
)

type filter = bond.Filter

// rights are good filters.
var rights = []filter{
	{},
	{Type: "a"}, {Type: "a", Id: "b"}, {Type: "a", Relation: "c"}, {Type: "a", Id: "b", Relation: "c"}, {Relation: "c"},
	{SubjectType: "d"}, {SubjectType: "d", SubjectId: "e"}, {SubjectType: "d", SubjectId: "*"}, {SubjectType: "d", SubjectRelation: "f"}, {SubjectType: "d", Bare: true},
	{SubjectType: "d", SubjectId: "e", SubjectRelation: "f"}, {SubjectType: "d", SubjectId: "e", Bare: true}, {SubjectType: "d", SubjectId: "*", Bare: true},
	{SubjectType: "d", SubjectId: "*", SubjectRelation: "f"}, // it matches no good tuple, but is one
	{Type: "a", SubjectType: "d"}, {Relation: "c", SubjectType: "d", SubjectRelation: "f"}, {Type: "a", Id: "b", Relation: "c", SubjectType: "d", SubjectId: "e", SubjectRelation: "f"},
	{Type: "a", Id: "b", Relation: "c", SubjectType: "d", SubjectId: "e", Bare: true}, {Type: "a", Id: "b", SubjectType: "d", Bare: true},
	{Type: "a_9"}, {Type: "a", Id: "\u00e4"}, {Type: "a", Id: "\ufffd"}, {Type: "a", Id: "A-."}, {SubjectType: "d", SubjectId: "\ufffd"},
	{Type: strings.Repeat("n", 16), Id: strings.Repeat("\u00e4", 24), Relation: strings.Repeat("n", 16), SubjectType: strings.Repeat("n", 16), SubjectId: strings.Repeat("\u00e4", 24), SubjectRelation: strings.Repeat("n", 16)},
}

// wrongs are filters that aren't good, each for one thing, as far as it can be.
var wrongs = []filter{
	// What is set without what it needs, or beside what rules it out.
	{Id: "b"}, {Id: "b", Relation: "c"}, {Id: "b", SubjectType: "d"}, {Id: "b", Relation: "c", SubjectType: "d", SubjectId: "e", SubjectRelation: "f"},
	{SubjectId: "e"}, {SubjectId: "*"}, {SubjectRelation: "f"}, {Bare: true}, {SubjectId: "e", SubjectRelation: "f"}, {SubjectId: "e", Bare: true}, {SubjectId: "*", Bare: true}, {SubjectRelation: "f", Bare: true},
	{Type: "a", SubjectId: "e"}, {Type: "a", SubjectId: "*"}, {Type: "a", SubjectRelation: "f"}, {Type: "a", Bare: true}, {Type: "a", Id: "b", Relation: "c", Bare: true}, {Relation: "c", SubjectId: "e"},
	{SubjectType: "d", SubjectRelation: "f", Bare: true}, {SubjectType: "d", SubjectId: "e", SubjectRelation: "f", Bare: true}, {SubjectType: "d", SubjectId: "*", SubjectRelation: "f", Bare: true}, {Type: "a", Id: "b", Relation: "c", SubjectType: "d", SubjectId: "e", SubjectRelation: "f", Bare: true},
	// What isn't of its form.
	{Type: "*"}, {Type: "a", Id: "*"}, {Relation: "*"}, {SubjectType: "*"}, {SubjectType: "d", SubjectRelation: "*"}, {SubjectType: "*", SubjectId: "*"}, {SubjectType: "d", SubjectId: "**"}, {SubjectType: "d", SubjectId: "*e"}, {SubjectType: "d", SubjectId: "e*"},
	{Type: "A"}, {Relation: "C"}, {SubjectType: "D"}, {SubjectType: "d", SubjectRelation: "F"}, {Type: "9"}, {Relation: "_"}, {SubjectType: "d "}, {SubjectType: "d", SubjectRelation: "\u00e4"},
	{Type: "A", Id: "b"}, {SubjectType: "D", SubjectId: "e"}, {SubjectType: "D", SubjectRelation: "f"}, {SubjectType: "D", Bare: true},
	{Type: "a", Id: "b c"}, {Type: "a", Id: "b:c"}, {Type: "a", Id: "b#c"}, {Type: "a", Id: "b@c"}, {SubjectType: "d", SubjectId: "e f"}, {SubjectType: "d", SubjectId: "e#f"}, {SubjectType: "d", SubjectId: "e,f"},
	{Type: "a\xff"}, {Type: "a", Id: "\xff"}, {Type: "a", Id: "b\xc3"}, {Relation: "\xff"}, {SubjectType: "\xff"}, {SubjectType: "d", SubjectId: "e\xff"}, {SubjectType: "d", SubjectRelation: "f\xff"},
	{Type: strings.Repeat("n", 17)}, {Type: "a", Id: strings.Repeat("b", 25)}, {Relation: strings.Repeat("n", 17)}, {SubjectType: strings.Repeat("n", 17)}, {SubjectType: "d", SubjectId: strings.Repeat("b", 25)}, {SubjectType: "d", SubjectRelation: strings.Repeat("n", 17)},
}

// some are tuples, good and not, many of them the same in some fields.
func some() []api.Tuple {
	var l []api.Tuple
	for _, x := range texts {
		l = append(l, x)
	}
	slices.SortFunc(l, bond.Compare)
	badTuples(func(x api.Tuple) { l = append(l, x) })
	return l
}

// filters goes through good filters, wrong ones, and all of some words.
func filters(visit func(f filter)) {
	for _, f := range append(slices.Clone(rights), wrongs...) {
		visit(f)
	}
	for _, typ := range []string{"", "a", "A"} {
		for _, id := range []string{"", "b", "*"} {
			for _, relation := range []string{"", "c", "\xff"} {
				for _, subject := range []string{"", "d", "x"} {
					for _, who := range []string{"", "e", "*"} {
						for _, has := range []string{"", "f", " "} {
							visit(filter{typ, id, relation, subject, who, has, false})
							visit(filter{typ, id, relation, subject, who, has, true})
						}
					}
				}
			}
		}
	}
}

// matches says the words of matching in another way than the program: what a
// filter leaves open is put in from the tuple, and then it must be that tuple.
func matches(f filter, x api.Tuple) bool {
	put := func(field *string, s string) {
		if *field == "" {
			*field = s
		}
	}
	put(&f.Type, x.Type)
	put(&f.Id, x.Id)
	put(&f.Relation, x.Relation)
	put(&f.SubjectType, x.Subject.Type)
	put(&f.SubjectId, x.Subject.Id)
	put(&f.SubjectRelation, x.Subject.Relation)
	bare := f.Bare
	f.Bare = false
	return f == of(x) && !(bare && x.Subject.Relation != "")
}

// of is the filter with all fields of a tuple.
func of(x api.Tuple) filter {
	return filter{x.Type, x.Id, x.Relation, x.Subject.Type, x.Subject.Id, x.Subject.Relation, false}
}

func TestP3_1Right(t *testing.T) {
	for _, f := range rights {
		if !bond.Right(f) {
			t.Errorf("Right(%#v): false", f)
		}
	}
	for _, f := range wrongs {
		if bond.Right(f) {
			t.Errorf("Right(%#v): true", f)
		}
	}
}

func TestP3_1RightOfEachWayToSetFields(t *testing.T) {
	full := filter{"a", "b", "c", "d", "e", "f", true}
	for set := range 1 << 7 {
		var f filter
		for k, p := range []struct {
			to *string
			s  string
		}{{&f.Type, full.Type}, {&f.Id, full.Id}, {&f.Relation, full.Relation}, {&f.SubjectType, full.SubjectType}, {&f.SubjectId, full.SubjectId}, {&f.SubjectRelation, full.SubjectRelation}} {
			if set>>k&1 == 1 {
				*p.to = p.s
			}
		}
		f.Bare = set>>6&1 == 1
		noObject := f.Id != "" && f.Type == ""
		noSubject := f.SubjectType == "" && (f.SubjectId != "" || f.SubjectRelation != "" || f.Bare)
		both := f.Bare && f.SubjectRelation != ""
		if got := bond.Right(f); got != !(noObject || noSubject || both) {
			t.Errorf("Right(%#v): %v", f, got)
		}
	}
}

// R7: of any filter, and any tuple.
func TestP3_1Match(t *testing.T) {
	l := some()
	filters(func(f filter) {
		for _, x := range l {
			if got := bond.Match(f, x); got != matches(f, x) {
				t.Errorf("Match(%#v, %q): %v", f, x, got)
			}
		}
	})
}

func TestP3_1MatchByWords(t *testing.T) {
	one, set, all := tuple("a", "b", "c", "d", "e", ""), tuple("a", "b", "c", "d", "e", "f"), tuple("a", "b", "c", "d", "*", "")
	bad := tuple("A", "*", "", "", "\xff", "F")
	for _, c := range []struct {
		f    filter
		x    api.Tuple
		want bool
	}{
		{filter{Type: "doc", SubjectType: "group"}, texts["doc:readme#viewer@group:eng#member"], true}, // the chapter's example
		{filter{Type: "doc", SubjectType: "group"}, texts["doc:readme#owner@user:ann"], false},
		{filter{SubjectId: "*"}, all, true}, {filter{SubjectId: "*"}, one, false}, {filter{SubjectId: "*"}, set, false}, {filter{SubjectId: "e"}, all, false}, // * is a field's value, it stands for no other
		{filter{Id: "*"}, one, false}, {filter{Type: "*"}, one, false}, {filter{Id: "*"}, bad, true},
		{filter{Bare: true}, one, true}, {filter{Bare: true}, all, true}, {filter{Bare: true}, set, false}, {filter{Bare: true}, bad, false}, {filter{Bare: true}, api.Tuple{}, true},
		{filter{SubjectRelation: "f", Bare: true}, set, false}, {filter{SubjectRelation: "f", Bare: true}, one, false},
		{filter{SubjectRelation: "f"}, set, true}, {filter{SubjectRelation: "f"}, one, false}, {filter{SubjectRelation: "f"}, all, false},
		{filter{Relation: "f"}, set, false}, {filter{SubjectRelation: "c"}, set, false}, {filter{Type: "d"}, set, false}, {filter{SubjectType: "a"}, set, false}, {filter{Id: "e"}, set, false}, {filter{SubjectId: "b"}, set, false}, // each field is its own
		{filter{Type: "aa"}, one, false}, {filter{Id: "B"}, one, false}, {filter{Relation: "c "}, one, false}, {filter{SubjectType: "\xff"}, one, false},
		{filter{Type: "A"}, bad, true}, {filter{SubjectId: "\xff"}, bad, true}, {filter{SubjectId: "\ufffd"}, bad, false}, {filter{SubjectRelation: "F"}, bad, true}, {filter{Relation: "c"}, bad, false},
		{filter{}, bad, true}, {filter{}, api.Tuple{}, true}, {filter{Type: "a"}, api.Tuple{}, false},
	} {
		if got := bond.Match(c.f, c.x); got != c.want {
			t.Errorf("Match(%#v, %q): %v", c.f, c.x, got)
		}
	}
}

func TestP3_1Pick(t *testing.T) {
	one, set, all := tuple("a", "b", "c", "d", "e", ""), tuple("a", "b", "c", "d", "e", "f"), tuple("a", "b", "c", "d", "*", "")
	bad := tuple("A", "*", "", "", "\xff", "F")
	l := []api.Tuple{set, bad, one, all, one, {}, set} // in no order, and some twice
	for _, c := range []struct {
		f    filter
		want []api.Tuple
	}{
		{filter{}, l},
		{filter{Type: "a"}, []api.Tuple{set, one, all, one, set}},
		{filter{Bare: true}, []api.Tuple{one, all, one, {}}},
		{filter{SubjectId: "e"}, []api.Tuple{set, one, one, set}},
		{filter{SubjectId: "*"}, []api.Tuple{all}},
		{filter{Type: "A", SubjectRelation: "F"}, []api.Tuple{bad}},
		{filter{Type: "x"}, nil},
		{filter{SubjectRelation: "f", Bare: true}, nil},
	} {
		if got := bond.Pick(c.f, l); !slices.Equal(got, c.want) {
			t.Errorf("Pick(%#v): %q", c.f, got)
		}
	}
	for _, none := range [][]api.Tuple{nil, {}, l[:0]} {
		if got := bond.Pick(filter{}, none); len(got) != 0 {
			t.Errorf("Pick of an empty list: %q", got)
		}
	}
	if got := bond.Pick(filter{}, l[:1]); !slices.Equal(got, []api.Tuple{set}) {
		t.Errorf("Pick of one: %q", got)
	}
	some := some()
	filters(func(f filter) {
		var want []api.Tuple
		for _, x := range some {
			if matches(f, x) {
				want = append(want, x)
			}
		}
		if got := bond.Pick(f, some); !slices.Equal(got, want) {
			t.Errorf("Pick(%#v): %q, want %q", f, got, want)
		}
	})
}

func TestP3_3TheEmptyFilterMatchesAll(t *testing.T) {
	l := some()
	for _, x := range l {
		if !bond.Match(filter{}, x) {
			t.Errorf("the empty filter doesn't match %q", x)
		}
	}
	if got := bond.Pick(filter{}, l); !slices.Equal(got, l) {
		t.Errorf("the empty filter picks %q", got)
	}
}

func TestP3_3AFilterWithFieldsOfATuple(t *testing.T) {
	others := []string{"", "z", "A", "*", "\xff", "aa", "user", "member"}
	l := some()
	for _, x := range l {
		fields := of(x)
		for set := range 1 << 6 {
			var f filter
			named := map[int]bool{}
			for k, p := range []struct {
				to *string
				s  string
			}{{&f.Type, fields.Type}, {&f.Id, fields.Id}, {&f.Relation, fields.Relation}, {&f.SubjectType, fields.SubjectType}, {&f.SubjectId, fields.SubjectId}, {&f.SubjectRelation, fields.SubjectRelation}} {
				if set>>k&1 == 1 {
					*p.to = p.s
					named[k] = p.s != ""
				}
			}
			if !bond.Match(f, x) {
				t.Fatalf("Match(%#v, %q): false", f, x)
			}
			// A tuple that is another one in one field alone.
			for k, s := range []string{x.Type, x.Id, x.Relation, x.Subject.Type, x.Subject.Id, x.Subject.Relation} {
				for _, other := range others {
					y := x
					*[]*string{&y.Type, &y.Id, &y.Relation, &y.Subject.Type, &y.Subject.Id, &y.Subject.Relation}[k] = other
					if got := bond.Match(f, y); got != (other == s || !named[k]) {
						t.Fatalf("Match(%#v, %q): %v", f, y, got)
					}
				}
			}
		}
	}
}
