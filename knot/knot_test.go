package knot_test

import (
	"math"
	"slices"
	"strconv"
	"strings"
	"testing"

	"stile/api"
	"stile/bond"
	"stile/knot"
)

var (
	name16 = strings.Repeat("n", 16)
	id24   = strings.Repeat("\U0001f600", 24) // of 96 bytes
)

func subject(typ, id, relation string) api.Subject {
	return api.Subject{Type: typ, Id: id, Relation: relation}
}

func tuple(typ, id, relation, subjectType, subjectId, subjectRelation string) api.Tuple {
	return api.Tuple{Type: typ, Id: id, Relation: relation, Subject: subject(subjectType, subjectId, subjectRelation)}
}

// numbers are in range, each with its bytes.
var numbers = map[int]string{
	0: "0;", 1: "1;", 9: "9;", 10: "10;", 12: "12;", 99: "99;", 100: "100;", 101: "101;", 4095: "4095;", math.MaxInt32: "2147483647;",
	1<<53 - 1: "9007199254740991;",
	1 << 53:   "9007199254740992;",
}

// texts with their bytes; a text is any bytes.
var texts = map[string]string{
	"":                        "0;,",
	"a":                       "1;a,",
	"ab":                      "2;ab,",
	",":                       "1;,,",
	";":                       "1;;,",
	"a,b;":                    "4;a,b;,",
	"1;a,":                    "4;1;a,,",
	",,,":                     "3;,,,,",
	"+":                       "1;+,",
	"\u00e4":                  "2;\u00e4,", // its bytes are counted, not its runes
	"\U0001f600":              "4;\U0001f600,",
	"\ufffd":                  "3;\ufffd,",
	"\xff":                    "1;\xff,",
	"\xc3":                    "1;\xc3,",
	"a\x00b":                  "3;a\x00b,",
	"\x00":                    "1;\x00,",
	" \n":                     "2; \n,",
	strings.Repeat("x", 9):    "9;xxxxxxxxx,",
	strings.Repeat("x", 10):   "10;xxxxxxxxxx,",
	strings.Repeat(";,", 500): "1000;" + strings.Repeat(";,", 500) + ",",
}

// subjects are good ones with their bytes.
var subjects = map[api.Subject]string{
	subject("user", "ann", ""):         "4;user,3;ann,0;,",
	subject("group", "eng", "member"):  "5;group,3;eng,6;member,",
	subject("user", "*", ""):           "4;user,1;*,0;,",
	subject("a", "\u00e4", ""):         "1;a,2;\u00e4,0;,",
	subject("a", "\ufffd", "b"):        "1;a,3;\ufffd,1;b,",
	subject("a", "+", ""):              "1;a,1;+,0;,",
	subject("a", "1", "b2"):            "1;a,1;1,2;b2,",
	subject(name16, id24, name16):      "16;" + name16 + ",96;" + id24 + ",16;" + name16 + ",",
	subject(name16, "*", ""):           "16;" + name16 + ",1;*,0;,",
	subject("a", id24, ""):             "1;a,96;" + id24 + ",0;,",
	subject("type", "this", "rel"):     "4;type,4;this,3;rel,",
	subject("a", "'{}[]<>|=+-!?", "b"): "1;a,13;'{}[]<>|=+-!?,1;b,",
}

// badSubjects likewise, of those that aren't good, each for one thing, as far as it can be.
var badSubjects = map[api.Subject]string{
	{}:                              "0;,0;,0;,",
	subject("", "ann", ""):          "0;,3;ann,0;,",
	subject("user", "", ""):         "4;user,0;,0;,",
	subject("user", "", "member"):   "4;user,0;,6;member,",
	subject("user", "*", "member"):  "4;user,1;*,6;member,",
	subject("*", "ann", ""):         "1;*,3;ann,0;,",
	subject("user", "**", ""):       "4;user,2;**,0;,",
	subject("group", "eng", "*"):    "5;group,3;eng,1;*,",
	subject("A", "a", ""):           "1;A,1;a,0;,",
	subject("a", "a", "A"):          "1;a,1;a,1;A,",
	subject("a", "a b", ""):         "1;a,3;a b,0;,",
	subject("a", "a,b", ""):         "1;a,3;a,b,0;,",
	subject("a", "a;b", ""):         "1;a,3;a;b,0;,",
	subject("a", "\xff", ""):        "1;a,1;\xff,0;,",
	subject("a", "\xff", "b"):       "1;a,1;\xff,1;b,",
	subject("\xff", "a", ""):        "1;\xff,1;a,0;,",
	subject("a", "a", "\xff"):       "1;a,1;a,1;\xff,",
	subject(name16+"n", "a", ""):    "17;" + name16 + "n,1;a,0;,",
	subject("a", id24+"b", ""):      "1;a,97;" + id24 + "b,0;,",
	subject("a", "a", name16+"n"):   "1;a,1;a,17;" + name16 + "n,",
	subject("a", long25, ""):        "1;a,25;" + long25 + ",0;,",
	subject(longer, longer, longer): strings.Repeat("70000;"+longer+",", 3),
}

var (
	long25 = strings.Repeat("b", 25) // too many runes for an id, though not too many bytes
	longer = strings.Repeat("b", 70000)
)

// tuples are good ones with their bytes.
var tuples = map[api.Tuple]string{
	tuple("doc", "readme", "viewer", "group", "eng", "member"): "3;doc,6;readme,6;viewer,5;group,3;eng,6;member,",
	tuple("doc", "readme", "owner", "user", "ann", ""):         "3;doc,6;readme,5;owner,4;user,3;ann,0;,",
	tuple("doc", "\u00e4", "viewer", "user", "*", ""):          "3;doc,2;\u00e4,6;viewer,4;user,1;*,0;,",
	tuple("a", "b", "c", "a", "b", "c"):                        "1;a,1;b,1;c,1;a,1;b,1;c,",
	tuple("a", "0", "c", "d", "9", ""):                         "1;a,1;0,1;c,1;d,1;9,0;,",
	tuple(name16, id24, name16, name16, id24, name16):          strings.Repeat("16;"+name16+",96;"+id24+",16;"+name16+",", 2),
}

// badTuples likewise, of those that aren't good.
var badTuples = map[api.Tuple]string{
	{}:                                        "0;,0;,0;,0;,0;,0;,",
	tuple("", "b", "c", "d", "e", ""):         "0;,1;b,1;c,1;d,1;e,0;,",
	tuple("a", "", "c", "d", "e", ""):         "1;a,0;,1;c,1;d,1;e,0;,",
	tuple("a", "b", "", "d", "e", ""):         "1;a,1;b,0;,1;d,1;e,0;,",
	tuple("a", "b", "c", "", "e", ""):         "1;a,1;b,1;c,0;,1;e,0;,",
	tuple("a", "b", "c", "d", "", ""):         "1;a,1;b,1;c,1;d,0;,0;,",
	tuple("a", "b", "c", "", "", ""):          "1;a,1;b,1;c,0;,0;,0;,",
	tuple("A", "b", "c", "d", "e", ""):        "1;A,1;b,1;c,1;d,1;e,0;,",
	tuple("a", "*", "c", "d", "e", ""):        "1;a,1;*,1;c,1;d,1;e,0;,",
	tuple("a", "b c", "c", "d", "e", ""):      "1;a,3;b c,1;c,1;d,1;e,0;,",
	tuple("a", "\xff", "c", "d", "e", ""):     "1;a,1;\xff,1;c,1;d,1;e,0;,",
	tuple("a", "b", "C", "d", "e", ""):        "1;a,1;b,1;C,1;d,1;e,0;,",
	tuple("a", "b", "\xff", "d", "e", ""):     "1;a,1;b,1;\xff,1;d,1;e,0;,",
	tuple("a", "b", "c", "D", "e", ""):        "1;a,1;b,1;c,1;D,1;e,0;,",
	tuple("a", "b", "c", "d", "*", "f"):       "1;a,1;b,1;c,1;d,1;*,1;f,",
	tuple("a", "b", "c", "d", "e", "F"):       "1;a,1;b,1;c,1;d,1;e,1;F,",
	tuple(name16+"n", "b", "c", "d", "e", ""): "17;" + name16 + "n,1;b,1;c,1;d,1;e,0;,",
	tuple("a", id24+"b", "c", "d", "e", ""):   "1;a,97;" + id24 + "b,1;c,1;d,1;e,0;,",
	tuple("a", long25, "c", "d", "e", ""):     "1;a,25;" + long25 + ",1;c,1;d,1;e,0;,",
	tuple("a", "b", name16+"n", "d", "e", ""): "1;a,1;b,17;" + name16 + "n,1;d,1;e,0;,",
}

// tied: the bytes of what ties.
func tied(ties func(k *knot.Knot)) string {
	k := knot.New()
	ties(k)
	return string(k.Bytes())
}

// want holds bytes against those that are to be there.
func want(t *testing.T, what, got, bytes string) {
	t.Helper()
	if got != bytes {
		t.Errorf("%.60s: %.200q, want %.200q", what, got, bytes)
	}
}

// listed: the bytes of a list of tuples, made of theirs.
func listed(l []api.Tuple) string {
	bytes := strconv.Itoa(len(l)) + ";"
	for _, x := range l {
		good, bad := tuples[x], badTuples[x]
		bytes += good + bad
	}
	return bytes
}

// lists goes through lists of tuples, some of them with ones that aren't good.
func lists(visit func(l []api.Tuple)) {
	good, all := goodTuples(), goodTuples()
	for x := range badTuples {
		all = append(all, x)
	}
	visit(nil)
	visit(good)
	visit(all)
	visit(append(slices.Clone(good), good...)) // in no order, and each twice
	visit(slices.Repeat(good[:1], 10))
	visit(slices.Repeat(good[:1], 201))
	for _, x := range all {
		visit([]api.Tuple{x})
		visit([]api.Tuple{x, good[0], x})
	}
}

func goodTuples() []api.Tuple {
	var l []api.Tuple
	for x := range tuples {
		l = append(l, x)
	}
	slices.SortFunc(l, bond.Compare)
	return l
}

func TestP4_1NumberIsTied(t *testing.T) {
	for n, bytes := range numbers {
		k := knot.New()
		if e := k.Number(n); e != api.OK {
			t.Errorf("Number(%d): %d", n, e)
		}
		want(t, "Number", string(k.Bytes()), bytes)
	}
	for n := range 3000 {
		want(t, "Number", tied(func(k *knot.Knot) { k.Number(n) }), strconv.Itoa(n)+";")
	}
}

func TestP4_1NumberOutOfRange(t *testing.T) {
	for _, n := range []int{-1, -2, -12, math.MinInt, math.MinInt + 1, -1 << 53, 1<<53 + 1, 1<<53 + 2, 1 << 54, math.MaxInt - 1, math.MaxInt} {
		k := knot.New()
		if e := k.Number(n); e != api.ErrRange {
			t.Errorf("Number(%d): %d", n, e)
		}
		want(t, "nothing is tied", string(k.Bytes()), "")
		k.Number(7)
		if e := k.Number(n); e != api.ErrRange {
			t.Errorf("Number(%d): %d", n, e)
		}
		want(t, "nothing is tied behind the 7", string(k.Bytes()), "7;")
		k.Mark(true)
		want(t, "and what comes is", string(k.Bytes()), "7;+")
	}
}

func TestP4_1TextAndMarkAreTied(t *testing.T) {
	for s, bytes := range texts {
		want(t, "Text", tied(func(k *knot.Knot) { k.Text(s) }), bytes)
	}
	want(t, "a long text", tied(func(k *knot.Knot) { k.Text(longer) }), "70000;"+longer+",")
	want(t, "yes", tied(func(k *knot.Knot) { k.Mark(true) }), "+")
	want(t, "no", tied(func(k *knot.Knot) { k.Mark(false) }), "-")
}

// What is tied is good or not.
func TestP4_1SubjectsAndTuplesAreTied(t *testing.T) {
	for _, m := range []map[api.Subject]string{subjects, badSubjects} {
		for x, bytes := range m {
			want(t, "Subject", tied(func(k *knot.Knot) { k.Subject(x) }), bytes)
		}
	}
	for _, m := range []map[api.Tuple]string{tuples, badTuples} {
		for x, bytes := range m {
			want(t, "Tuple", tied(func(k *knot.Knot) { k.Tuple(x) }), bytes)
		}
	}
	lists(func(l []api.Tuple) {
		want(t, "Tuples", tied(func(k *knot.Knot) { k.Tuples(l) }), listed(l))
	})
}

func TestP4_1BytesAreAllThatWasTiedInOrder(t *testing.T) {
	k := knot.New()
	if got := k.Bytes(); len(got) != 0 {
		t.Errorf("of nothing: %q", got)
	}
	x := tuple("doc", "\u00e4", "viewer", "user", "*", "")
	bytes := ""
	for _, step := range []struct {
		tie  func()
		more string
	}{
		{func() { k.Number(12) }, "12;"},
		{func() { k.Text("ab") }, "2;ab,"},
		{func() { k.Mark(true) }, "+"},
		{func() { k.Number(-1) }, ""},
		{func() { k.Mark(false) }, "-"},
		{func() { k.Text("") }, "0;,"},
		{func() { k.Subject(subject("group", "eng", "member")) }, "5;group,3;eng,6;member,"},
		{func() { k.Tuple(x) }, tuples[x]},
		{func() { k.Tuples(nil) }, "0;"},
		{func() { k.Tuples([]api.Tuple{x, x}) }, "2;" + tuples[x] + tuples[x]},
		{func() { k.Tuple(api.Tuple{}) }, "0;,0;,0;,0;,0;,0;,"},
		{func() { k.Number(1 << 53) }, "9007199254740992;"},
	} {
		step.tie()
		bytes += step.more
		want(t, "all that was tied", string(k.Bytes()), bytes)
		want(t, "and again", string(k.Bytes()), bytes)
	}
}

// Each knot has its own.
func TestP4_1KnotsAreApart(t *testing.T) {
	a, b := knot.New(), knot.New()
	a.Number(1)
	b.Text("b")
	a.Mark(true)
	want(t, "the one", string(a.Bytes()), "1;+")
	want(t, "the other one", string(b.Bytes()), "1;b,")
	want(t, "a new one", string(knot.New().Bytes()), "")
}
