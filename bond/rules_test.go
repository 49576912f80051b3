package bond_test

import (
	"slices"
	"strings"
	"testing"
	"unsafe"

	"stile/api"
	"stile/bond"
)

// overlap: has the piece of memory that begins at a a byte of that at b?
func overlap(a, b unsafe.Pointer, sizeA, sizeB uintptr) bool {
	return sizeA > 0 && sizeB > 0 && uintptr(a) < uintptr(b)+sizeB && uintptr(b) < uintptr(a)+sizeA
}

// shares: has b a byte of a's memory?
func shares(a, b string) bool {
	return overlap(unsafe.Pointer(unsafe.StringData(a)), unsafe.Pointer(unsafe.StringData(b)), uintptr(len(a)), uintptr(len(b)))
}

// sharesRoom: has b, with its spare room, a byte of a's, with its?
func sharesRoom(a, b []api.Tuple) bool {
	size := unsafe.Sizeof(api.Tuple{})
	return overlap(unsafe.Pointer(unsafe.SliceData(a)), unsafe.Pointer(unsafe.SliceData(b)), uintptr(cap(a))*size, uintptr(cap(b))*size)
}

func fields(x api.Tuple) []string {
	return []string{x.Type, x.Id, x.Relation, x.Subject.Type, x.Subject.Id, x.Subject.Relation}
}

// roomy is a list that has spare room on both sides, filled with x.
func roomy(l []api.Tuple, x api.Tuple) (whole, list []api.Tuple) {
	whole = append([]api.Tuple{x, x}, l...)
	whole = slices.Clip(append(whole, x, x, x))
	return whole, whole[2 : 2+len(l)]
}

func TestP3_4WhatIsHandedInStays(t *testing.T) {
	l := some()
	mark := tuple("mark", "mark", "mark", "mark", "mark", "")
	whole, list := roomy(l, mark)
	before := slices.Clone(whole)
	filters(func(f filter) {
		got := bond.Pick(f, list)
		bond.Rising(list)
		// Who has an answer may change it, and fill its spare room.
		got = got[:cap(got)]
		for i := range got {
			got[i] = tuple("x", "x", "x", "x", "x", "x")
		}
		if !slices.Equal(whole, before) {
			t.Fatalf("Pick(%#v) changes what is handed in, or shares its room", f)
		}
	})
	// Nor does an answer hang on the list behind the call.
	got := bond.Pick(filter{}, list)
	for i := range whole {
		whole[i] = mark
	}
	if !slices.Equal(got, l) {
		t.Error("Pick's answer changes with the list that was handed in")
	}
}

func TestP3_4AnswersAreNewMemory(t *testing.T) {
	for s, x := range texts {
		got, _ := bond.Read(s)
		for _, piece := range fields(got) {
			if shares(s, piece) {
				t.Errorf("R6: the answer of %q shares memory with it", s)
			}
		}
		text := bond.Text(x)
		for _, piece := range fields(x) {
			if shares(piece, text) {
				t.Errorf("R6: the text of %q shares memory with it", x)
			}
		}
	}
	l := some()
	_, list := roomy(l, api.Tuple{})
	filters(func(f filter) {
		if a, b := bond.Pick(f, list), bond.Pick(f, list); sharesRoom(list, a) || sharesRoom(list, b) || sharesRoom(a, b) {
			t.Fatalf("R6: Pick(%#v)'s answer shares room", f)
		}
	})
	for i, x := range bond.Pick(filter{}, list) {
		for _, a := range fields(list[i]) {
			for _, b := range fields(x) {
				if shares(a, b) {
					t.Errorf("R6: what is picked of %q shares memory with it", list[i])
				}
			}
		}
	}
}

// R7 allows Text good tuples only, and Good and Right tell of any; here all are
// called of others too, for no call may ever panic.
func TestP9EveryCallEnds(t *testing.T) {
	calls := func(x api.Tuple, f filter) {
		bond.Good(x)
		bond.Compare(x, tuple(x.Relation, x.Type, x.Id, x.Subject.Id, "", ""))
		bond.Read(bond.Text(x))
		bond.Right(f)
		bond.Match(f, x)
		bond.Pick(f, []api.Tuple{x, {}, x})
		bond.Rising([]api.Tuple{x, {}, x})
	}
	for _, x := range some() {
		calls(x, of(x))
	}
	filters(func(f filter) { calls(api.Tuple{}, f) })
	for _, s := range nobodys {
		bond.Read(s)
		calls(tuple(s, s, s, s, s, s), filter{s, s, s, s, s, s, true})
	}
	for a := range 256 {
		for b := range 256 {
			s := string([]byte{byte(a), byte(b)})
			bond.Read("a:" + s + "@d:e")
			bond.Read("a:b#c@d:" + s)
			bond.Read("a:b" + s + "d:e")
			bond.Read(s)
		}
	}
	bond.Pick(filter{}, nil)
	bond.Rising(nil)
	many := slices.Repeat([]api.Tuple{tuple("a", "b", "c", "d", "e", "")}, 1<<16)
	if len(bond.Pick(filter{}, many)) != len(many) || bond.Rising(many) {
		t.Error("a long list")
	}
}

func TestP10ErrorsStandAlone(t *testing.T) {
	for _, s := range nobodys {
		if x, e := bond.Read(s); e == api.OK || x != (api.Tuple{}) {
			t.Errorf("R3: Read(%.40q): %q, %d", s, x, e)
		}
	}
}

func TestP10EmptyListsMeanTheSame(t *testing.T) {
	// R5: nil, empty, and empty with spare room.
	room := []api.Tuple{tuple("b", "b", "b", "b", "b", ""), tuple("a", "a", "a", "a", "a", "")}
	for _, l := range [][]api.Tuple{nil, {}, room[:0], room[1:1], make([]api.Tuple, 0, 5)} {
		if !bond.Rising(l) {
			t.Errorf("R5: Rising(%q): false", l)
		}
		filters(func(f filter) {
			if got := bond.Pick(f, l); len(got) != 0 {
				t.Errorf("R5: Pick(%#v, %q): %q", f, l, got)
			}
		})
	}
}

func TestP10AnswersHangOnArgumentsAlone(t *testing.T) {
	type answers struct {
		x            api.Tuple
		e            api.Errno
		good, rising bool
		text         string
		rank, picked int
	}
	edge := texts["doc:readme#viewer@user:*"]
	ask := func(s string) answers {
		a := answers{}
		a.x, a.e = bond.Read(s)
		a.good, a.text, a.rank = bond.Good(a.x), bond.Text(a.x), bond.Compare(a.x, edge)
		l := []api.Tuple{a.x, edge, a.x}
		a.rising, a.picked = bond.Rising(l[:2]), len(bond.Pick(of(a.x), l))
		return a
	}
	list := append([]string{}, nobodys...)
	for s := range texts {
		list = append(list, s)
	}
	var first []answers
	for _, s := range list {
		first = append(first, ask(s))
	}
	for i := len(list) - 1; i >= 0; i-- {
		if ask(strings.Clone(list[i])) != first[i] {
			t.Errorf("R8: %.40q: another answer the second time", list[i])
		}
	}
	// R8: not on a list's room, either.
	l := some()
	_, list2 := roomy(l, edge)
	filters(func(f filter) {
		if !slices.Equal(bond.Pick(f, l), bond.Pick(f, list2)) {
			t.Errorf("R8: Pick(%#v): another answer of a list with other room", f)
		}
	})
}
