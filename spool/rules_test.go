package spool_test

import (
	"fmt"
	"math"
	"math/rand"
	"slices"
	"testing"
	"unsafe"

	"stile/api"
	"stile/spool"
	"stile/tray"
)

// sharesRoom: has b, with its spare room, a byte of a's, with its?
func sharesRoom(a, b []byte) bool {
	from, to := uintptr(unsafe.Pointer(unsafe.SliceData(a))), uintptr(unsafe.Pointer(unsafe.SliceData(b)))
	return cap(a) > 0 && cap(b) > 0 && from < to+uintptr(cap(b)) && to < from+uintptr(cap(a))
}

// fill fills a list, and its spare room.
func fill(b []byte, x byte) {
	b = b[:cap(b)]
	for k := range b {
		b[k] = x
	}
}

func TestP13_3WhatIsHandedInStaysAndIsntKept(t *testing.T) {
	for _, n := range []int{0, 1, 107, 108, 109, 300, 648} {
		whole := []byte(text(1000, 1))
		before := slices.Clone(whole)
		x, r := laid(t, 9), ring(2, 6)
		s := opens(t, x, r, 0, 1)
		b := whole[100 : 100+n] // with spare room behind
		if e := s.Append(b); e != api.OK {
			t.Fatalf("Append of %d bytes: %d", n, e)
		}
		if s.Append(whole) != api.ErrFull {
			t.Error("Append of all")
		}
		spool.Sum(b)
		if !slices.Equal(whole, before) {
			t.Errorf("what is appended is changed, or its spare room: %q", whole)
		}
		stood := all(t, x)
		fill(whole, 'x')
		if all(t, x) != stood {
			t.Error("what is appended is kept")
		}
		opens(t, x, r, 0, 2, string(before[100:100+n]))
	}
	s := opens(t, laid(t, 4), ring(0, 4), 0, 1)
	whole := []byte(text(most+100, 1))
	before := slices.Clone(whole)
	if s.Append(whole) != api.ErrRange || s.Append(whole[:most]) != api.ErrFull || !slices.Equal(whole, before) {
		t.Error("what is refused is changed")
	}
}

// Records without spare room: pieces are cut out of them, not made longer.
func TestP13_3RecordsWithoutSpareRoom(t *testing.T) {
	x, r := laid(t, 9), ring(0, 9)
	s := opens(t, x, r, 0, 1)
	var want []string
	for _, n := range []int{0, 108, 216, 1} {
		b := slices.Clip([]byte(text(n, n)))
		want = append(want, string(b))
		if s.Append(b) != api.OK || string(b) != want[len(want)-1] {
			t.Errorf("Append of %d bytes", n)
		}
	}
	opens(t, x, r, 0, 2, want...)
}

func TestP13_3AnswersAreNewMemory(t *testing.T) {
	x, r := laid(t, 20), ring(3, 15)
	s := opens(t, x, r, 4, 1)
	b, want := []byte(text(1000, 1)), []string(nil)
	answers := [][]byte{b}
	for _, n := range []int{1, 108, 0, 109, 300, 300} {
		want = append(want, string(b[:n]))
		appends(t, s, want[len(want)-1], api.OK)
	}
	for range 5 {
		_, l, e := spool.Open(x, r, 4, 2)
		if e != api.OK || len(l) != len(want) {
			t.Fatalf("Open: %q, %d", l, e)
		}
		for _, a := range l {
			for _, earlier := range answers {
				if sharesRoom(a, earlier) {
					t.Fatal("two answers share room")
				}
			}
			answers = append(answers, a)
		}
		for k := range l[:cap(l)] {
			if k < len(l) && string(l[k]) != want[k] {
				t.Errorf("record %d: %q", k, l[k])
			}
		}
	}
	for _, a := range answers {
		fill(a, '!')
	}
	opens(t, x, r, 4, 2, want...)
	opens(t, x.Lose(nil), r, 4, 2, want...)
	stands(t, s, 4, 15, 4)
	// Nor does an answer hang on what is written behind it.
	_, l, _ := spool.Open(x, r, 4, 2)
	s.Cut()
	appends(t, s, text(1500, 2), api.OK)
	if !slices.Equal(texts(l), want) {
		t.Errorf("what was found is changed by an Append: %q", texts(l))
	}
}

// What is kept is the tray: spools of one tray, and of others, see what the
// tray has; but head, tail, and that it is dead, are each one's own.
func TestP10SpoolsStandAlone(t *testing.T) {
	x, y := laid(t, 12), laid(t, 12)
	a, b, c := opens(t, x, ring(0, 5), 0, 1), opens(t, x, ring(5, 7), 7, 3), opens(t, y, ring(0, 5), 0, 1)
	appends(t, a, "a", api.OK)
	appends(t, b, text(200, 1), api.OK)
	stands(t, a, 0, 1, 4)
	stands(t, b, 7, 9, 5)
	stands(t, c, 0, 0, 5)
	b.Cut()
	x.Power(0)
	appends(t, a, "b", api.ErrDead)
	x.Power(steps)
	appends(t, a, "b", api.ErrDead)
	appends(t, b, "c", api.OK)
	appends(t, c, "d", api.OK)
	stands(t, a, 0, 1, 4)
	stands(t, b, 9, 10, 6)
	stands(t, c, 0, 1, 4)
	opens(t, x, ring(0, 5), 0, 2, "a")
	opens(t, x, ring(5, 7), 7, 4, text(200, 1), "c")
	opens(t, y, ring(0, 5), 0, 2, "d")
}

// R3 and R4: beside an error there is nothing, and nothing is changed.
func TestP10ErrorsChangeNothing(t *testing.T) {
	x, r := laid(t, 8), ring(1, 4)
	s := opens(t, x, r, 2, 1)
	appends(t, s, "a", api.OK)
	before := all(t, x)
	x.Power(2)
	for range 50 {
		appends(t, s, text(most+1, 1), api.ErrRange)
		appends(t, s, text(325, 1), api.ErrFull)
		for _, bad := range []spool.Ring{{1, 1}, {1, 8}, {-1, 4}} {
			if z, l, e := spool.Open(x, bad, 2, 2); z != nil || l != nil || e != api.ErrRange {
				t.Errorf("R3: Open: %v, %q, %d", z, l, e)
			}
		}
		stands(t, s, 2, 3, 3)
	}
	if all(t, x) != before || x.Dark() || x.Cached() != 0 {
		t.Error("R4: the tray is changed")
	}
	appends(t, s, "b", api.OK)
	appends(t, s, "c", api.ErrDead)
	stands(t, s, 2, 4, 2)
	opens(t, x, r, 2, 2, "a", "b")
}

// R5: nil and nothing are the same record.
func TestP10EmptyRecordsMeanTheSame(t *testing.T) {
	var first string
	for k, b := range [][]byte{nil, {}, make([]byte, 0, 9), []byte("abc")[:0]} {
		x := laid(t, 4)
		s := opens(t, x, ring(0, 4), 0, 1)
		if s.Append(b) != api.OK || spool.Sum(b) != math.MaxUint32 {
			t.Error("Append of nothing")
		}
		if k == 0 {
			first = all(t, x)
		}
		if all(t, x) != first {
			t.Errorf("R5: %x, want %x", all(t, x), first)
		}
		stands(t, s, 0, 1, 3)
		opens(t, x, ring(0, 4), 0, 2, "")
	}
}

// R8: what is answered hangs on arguments, and on what the tray has: asked
// again it is the same.
func TestP10AskedAgainItIsTheSame(t *testing.T) {
	x, r := laid(t, 10), ring(2, 7)
	s := opens(t, x, r, 3, 5)
	appends(t, s, "a", api.OK)
	appends(t, s, text(200, 1), api.OK)
	for range 3 {
		for epoch := 8; epoch > 4; epoch-- {
			if epoch > 5 {
				opens(t, x, r, 3, epoch, "a", text(200, 1))
				opens(t, x, r, 4, epoch, text(200, 1))
			} else {
				opens(t, x, r, 3, epoch)
			}
		}
		stands(t, s, 3, 6, 4)
		if spool.Sum([]byte("a")) != sum([]byte("a")) {
			t.Error("Sum")
		}
	}
}

// Whatever a call is given, it ends and doesn't panic; whatever stands on the
// tray.
func TestP9EveryCallEnds(t *testing.T) {
	ints := []int{math.MinInt, -1 << 40, -1, 0, 1, 2, 3, 7, 10, 4096, 1 << 32, 1<<32 - 1, 1 << 40, 1<<40 + 1, math.MaxInt - 1, math.MaxInt}
	trays := []*tray.Tray{laid(t, 4), laid(t, 10), laid(t, 4096)}
	for _, x := range trays {
		for at := range x.Sectors() {
			writes(t, x, at, whole(0, at, "a").raw())
		}
		for _, first := range ints {
			for _, count := range ints {
				for _, head := range ints {
					for _, epoch := range ints {
						callAll(t, x, ring(first, count), head, epoch)
					}
				}
			}
		}
	}
}

func callAll(t *testing.T, x *tray.Tray, r spool.Ring, head, epoch int) {
	t.Helper()
	s, l, e := spool.Open(x, r, head, epoch)
	if (e == api.OK) != (s != nil) || e != api.OK && len(l) != 0 {
		t.Fatalf("P9: Open(%v, %d, %d): %v, %q, %d", r, head, epoch, s, l, e)
	}
	if s == nil {
		return
	}
	for range 3 {
		s.Append([]byte("a"))
		s.Append(nil)
		s.Append(make([]byte, 500))
	}
	s.Cut()
	s.Append(make([]byte, 500))
	if s.Room() != r.Count-(s.Tail()-s.Head()) || s.Room() < 0 || s.Tail() < s.Head() || s.Head() < head {
		t.Fatalf("P9: Head %d, Tail %d, Room %d", s.Head(), s.Tail(), s.Room())
	}
}

// What stands on a ring may be anything.
func TestP9AnythingOnTheRing(t *testing.T) {
	m := rand.New(rand.NewSource(139))
	for range 3000 {
		x := laid(t, 4+m.Intn(6))
		for at := range x.Sectors() {
			s := sector{sign: 0x53, epoch: m.Intn(2), number: at, part: m.Intn(2) * m.Intn(1<<16), parts: m.Intn(2) * m.Intn(1<<16), size: m.Intn(256), bytes: text(m.Intn(109), m.Intn(99))}
			b := s.raw()
			if m.Intn(4) == 0 {
				m.Read(b)
			}
			writes(t, x, at, b)
		}
		r := ring(0, x.Sectors())
		want, tail := found(t, x, r, 0, 9)
		opensTo(t, x, r, 0, 9, tail, want...)
	}
}

// A ring of all sectors is gone through once, not once for each record; a
// record of many is told as soon as one is missing.
func TestP9GreatRings(t *testing.T) {
	x, r := laid(t, 4096), ring(0, 4096)
	var want []string
	s := opens(t, x, r, 5, 1)
	for k := range 4096 {
		want = append(want, fmt.Sprint(k))
		appends(t, s, want[k], api.OK)
	}
	opens(t, x, r, 5, 2, want...)
	for n := range 4096 {
		put(t, x, r, sector{sign: 0x53, epoch: 1, number: n, parts: 65_535, size: 108, bytes: text(108, 1)})
	}
	for n := range 4096 {
		opens(t, x, r, n, 2)
	}
	for n := range 4096 { // a record that goes round and round
		put(t, x, r, sector{sign: 0x53, epoch: 1, number: n, part: n, parts: 65_535, size: 108, bytes: text(108, 1)})
	}
	opens(t, x, r, 0, 2)
}
