package knot_test

import (
	"math"
	"slices"
	"strings"
	"testing"
	"unsafe"

	"stile/api"
	"stile/knot"
)

// overlap: has the piece of memory that begins at a a byte of that at b?
func overlap(a, b unsafe.Pointer, sizeA, sizeB uintptr) bool {
	return sizeA > 0 && sizeB > 0 && uintptr(a) < uintptr(b)+sizeB && uintptr(b) < uintptr(a)+sizeA
}

// shares: has b a byte of a's memory?
func shares(a, b string) bool {
	return overlap(unsafe.Pointer(unsafe.StringData(a)), unsafe.Pointer(unsafe.StringData(b)), uintptr(len(a)), uintptr(len(b)))
}

// sharesRoom: has b, with its spare room, a byte of a's, with its?
func sharesRoom[T any](a, b []T) bool {
	var one T
	size := unsafe.Sizeof(one)
	return overlap(unsafe.Pointer(unsafe.SliceData(a)), unsafe.Pointer(unsafe.SliceData(b)), uintptr(cap(a))*size, uintptr(cap(b))*size)
}

func fields(x api.Tuple) []string {
	return []string{x.Type, x.Id, x.Relation, x.Subject.Type, x.Subject.Id, x.Subject.Relation}
}

// roomy is a list that has spare room on both sides, filled with x.
func roomy[T any](l []T, x T) (whole, list []T) {
	whole = append([]T{x, x}, l...)
	whole = slices.Clip(append(whole, x, x, x))
	return whole, whole[2 : 2+len(l)]
}

// fill fills a list that was answered, and its spare room, with x.
func fill[T any](l []T, x T) {
	l = l[:cap(l)]
	for i := range l {
		l[i] = x
	}
}

func TestP4_3WhatIsTiedStaysAndIsntKept(t *testing.T) {
	mark := tuple("mark", "mark", "mark", "mark", "mark", "")
	l := goodTuples()
	whole, list := roomy(l, mark)
	before := slices.Clone(whole)
	k := knot.New()
	k.Tuples(list)
	k.Tuples(list[:0])
	bytes := listed(l) + "0;"
	want(t, "Tuples", string(k.Bytes()), bytes)
	k.Mark(true)
	if !slices.Equal(whole, before) {
		t.Error("what is tied is changed, or its spare room")
	}
	// Nor does what was tied hang on the list behind the call.
	fill(whole[:0], mark)
	want(t, "what was tied, behind a change of the list", string(k.Bytes()), bytes+"+")
}

func TestP4_3BytesAreNewMemory(t *testing.T) {
	k := knot.New()
	var answers [][]byte
	for n := range 100 {
		k.Number(n)
		a, b := k.Bytes(), k.Bytes()
		if sharesRoom(a, b) {
			t.Fatal("two answers share room")
		}
		for _, earlier := range answers {
			if sharesRoom(a, earlier) {
				t.Fatal("an answer shares room with an earlier one")
			}
		}
		answers = append(answers, a)
	}
	// Neither what is tied later changes an answer, nor a change of an answer what was tied.
	want(t, "the first answer", string(answers[0]), "0;")
	want(t, "a later answer", string(answers[9]), "0;1;2;3;4;5;6;7;8;9;")
	bytes := string(k.Bytes())
	for _, a := range answers {
		fill(a, '!')
	}
	want(t, "what was tied", string(k.Bytes()), bytes)
	k.Mark(false)
	want(t, "and behind it", string(k.Bytes()), bytes+"-")
}

func TestP4_3WhatIsOpenedStaysAndIsntKept(t *testing.T) {
	bytes := "12;2;ab,+" + subjects[subject("group", "eng", "member")] + listed(goodTuples())
	whole, handed := roomy([]byte(bytes), '#')
	before := slices.Clone(whole)
	take := func(i *knot.In) bool {
		return i.Number(12) == 12 && i.Text(2) == "ab" && i.Mark() && i.Subject() == subject("group", "eng", "member") && len(i.Tuples(100)) == len(tuples) && i.End() == api.OK
	}
	if !take(knot.Open(handed)) {
		t.Error("not all is taken")
	}
	knot.Open(handed).Number(1) // one that fails
	if !slices.Equal(whole, before) {
		t.Error("what is opened is changed, or its spare room")
	}
	// Nor does an untying hang on the bytes behind the call, nor on its room.
	i := knot.Open(handed)
	fill(whole[:0], '0')
	if !take(i) {
		t.Error("an untying hangs on bytes that are changed behind the call")
	}
	// Nor does what was taken.
	handed = []byte("2;ab,1;a,2;bc,1;d,")
	i = knot.Open(handed)
	s := i.Text(2)
	fill(handed, 'x')
	if x := i.Subject(); s != "ab" || x != subject("a", "bc", "d") {
		t.Errorf("what is taken hangs on the bytes: %q, %q", s, x)
	}
}

func TestP4_3WhatIsTakenIsNewMemory(t *testing.T) {
	l := goodTuples()
	bytes := []byte(listed(l) + listed(l))
	i := knot.Open(bytes)
	a, b := i.Tuples(100), i.Tuples(100)
	if sharesRoom(a, b) {
		t.Error("two lists share room")
	}
	var all []string
	for _, x := range append(slices.Clone(a), b...) {
		all = append(all, fields(x)...)
	}
	i = knot.Open([]byte("2;ab,2;cd,"))
	all = append(all, i.Text(2), i.Text(2))
	for n, s := range all {
		if shares(unsafe.String(unsafe.SliceData(bytes), len(bytes)), s) {
			t.Errorf("%q shares memory with the bytes", s)
		}
		for _, other := range all[:n] {
			if shares(other, s) {
				t.Errorf("%q shares memory with another answer", s)
			}
		}
	}
	fill(a, tuple("x", "x", "x", "x", "x", "x"))
	if !slices.Equal(b, l) {
		t.Error("a change of one list changes another one")
	}
	// Nor is a text a piece of what the untying has: two would lie there as far apart as in the bytes.
	long := "70000;" + longer + ","
	i = knot.Open([]byte(long + long))
	first, second := i.Text(70000), i.Text(70000)
	if uintptr(unsafe.Pointer(unsafe.StringData(second)))-uintptr(unsafe.Pointer(unsafe.StringData(first))) == uintptr(len(long)) {
		t.Error("texts that are taken are pieces of what was opened")
	}
}

// Texts that are tied aren't kept either.
func TestP4_3TextsThatAreTiedArentKept(t *testing.T) {
	raw := []byte("abc")
	s := unsafe.String(&raw[0], len(raw))
	k := knot.New()
	k.Text(s)
	k.Subject(subject(s, s, s))
	raw[0] = 'x'
	want(t, "what was tied", string(k.Bytes()), strings.Repeat("3;abc,", 4))
}

// R7 and the chapter allow any argument here.
func TestP9EveryCallEnds(t *testing.T) {
	mosts := []int{math.MinInt, -1, 0, 1, 2, 17, 1 << 53, math.MaxInt - 1, math.MaxInt}
	calls := func(s string) {
		for _, most := range mosts {
			i := knot.Open([]byte(s))
			i.Number(most)
			i.Text(most)
			i.Tuples(most)
			knot.Open([]byte(s)).Text(most)
			knot.Open([]byte(s)).Tuples(most)
		}
		for _, zero := range things {
			i := knot.Open([]byte(s))
			for range 4 {
				zero(i)
				i.Left()
				i.End()
			}
		}
	}
	for a := range 256 {
		for b := range 256 {
			calls(string([]byte{byte(a), byte(b)}))
		}
	}
	one := "1;a,1;b,1;c,1;d,1;e,0;,"
	for _, s := range []string{
		"99999999999999999;", "99999999999999999;,", "99999999999999999;" + one, "9007199254740992;" + one + one, "2147483648;a,", "4294967296;a,", "9223372036854775807;a,", "18446744073709551615;,",
		strings.Repeat("9", 1<<20), strings.Repeat("0", 1<<20) + ";", strings.Repeat(";", 1<<20), strings.Repeat("1;", 1<<19), strings.Repeat("\xff", 1<<20), "1000000;" + strings.Repeat("+", 1<<20),
	} {
		calls(s)
	}
	for _, n := range append(mosts, 1<<53+1) {
		k := knot.New()
		k.Number(n)
		k.Bytes()
	}
	for x := range badTuples {
		tied(func(k *knot.Knot) { k.Tuples([]api.Tuple{x, {}, x}) })
	}
	k, many := knot.New(), slices.Repeat(goodTuples(), 1<<12)
	k.Tuples(many)
	i := knot.Open(k.Bytes())
	if !slices.Equal(i.Tuples(len(many)), many) || i.End() != api.OK {
		t.Error("a long list")
	}
	whole := "1000;" + strings.Repeat(one, 999) + "1;A,"
	failsAlone(t, whole, func(i *knot.In) int { return len(i.Tuples(1000)) })
}

func TestP10ErrorsChangeNothing(t *testing.T) {
	// R4: an ErrRange ties nothing; an ErrForm of End fails nothing.
	k := knot.New()
	for _, n := range []int{-1, 1<<53 + 1, 5, math.MinInt, math.MaxInt, 6} {
		k.Number(n)
	}
	want(t, "R4: numbers out of range", string(k.Bytes()), "5;6;")
	i := knot.Open([]byte("5;6;"))
	if i.End() != api.ErrForm || i.Number(5) != 5 || i.End() != api.ErrForm || i.Number(6) != 6 || i.End() != api.OK {
		t.Error("R4: End that fails takes or fails something")
	}
}

func TestP10EmptyListsMeanTheSame(t *testing.T) {
	// R5: nil, empty, and empty with spare room.
	room := goodTuples()
	for _, l := range [][]api.Tuple{nil, {}, room[:0], room[1:1], make([]api.Tuple, 0, 5)} {
		want(t, "R5: Tuples", tied(func(k *knot.Knot) { k.Tuples(l) }), "0;")
	}
	i := knot.Open([]byte("0;0;"))
	if len(i.Tuples(0)) != 0 || len(i.Tuples(9)) != 0 || i.End() != api.OK {
		t.Error("R5: empty lists are taken")
	}
	bytes := []byte("0;")
	for _, b := range [][]byte{nil, {}, bytes[:0], make([]byte, 0, 5)} {
		i := knot.Open(b)
		if i.Left() != 0 || i.End() != api.OK || i.Mark() || i.End() != api.ErrForm {
			t.Errorf("R5: Open(%#v)", b)
		}
	}
}

func TestP10AnswersHangOnArgumentsAlone(t *testing.T) {
	// R8: not on other knots and untyings, nor on the room of what is handed in.
	bytes := "12;2;ab,+" + subjects[subject("group", "eng", "member")] + listed(goodTuples())
	_, room := roomy([]byte(bytes), '7')
	a, b := knot.Open([]byte(bytes)), knot.Open(room)
	for _, i := range []*knot.In{a, b} {
		if i.Number(12) != 12 || knot.Open([]byte("!")).Mark() || i.Text(2) != "ab" {
			t.Error("R8: another answer")
		}
	}
	for _, i := range []*knot.In{b, a} {
		if !i.Mark() || i.Subject() != subject("group", "eng", "member") || len(i.Tuples(100)) != len(tuples) || i.End() != api.OK {
			t.Error("R8: another answer")
		}
	}
	_, cut := roomy([]byte("2;ab"), ',') // the comma stands in the room only
	failsAlone(t, string(cut), func(i *knot.In) string { return i.Text(2) })
	if s := knot.Open(cut).Text(2); s != "" {
		t.Errorf("R8: Text takes of the spare room: %q", s)
	}
	for range 3 {
		want(t, "R8: Tuples", tied(func(k *knot.Knot) { k.Tuples(goodTuples()[:1]) })[:2], "1;")
	}
}
