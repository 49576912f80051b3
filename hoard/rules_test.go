package hoard_test

import (
	"fmt"
	"math/rand"
	"slices"
	"testing"
	"unsafe"

	"stile/api"
	"stile/hoard"
	"stile/tray"
)

// sharesRoom: has b, with its spare room, a byte of a's, with its?
func sharesRoom(a, b []byte) bool {
	from, to := uintptr(unsafe.Pointer(unsafe.SliceData(a))), uintptr(unsafe.Pointer(unsafe.SliceData(b)))
	return cap(a) > 0 && cap(b) > 0 && from < to+uintptr(cap(b)) && to < from+uintptr(cap(a))
}

// fill fills a list, and its spare room.
func fill(b []byte, x byte) {
	b = b[:cap(b)]
	for k := range b {
		b[k] = x
	}
}

func TestP14_3WhatIsHandedInStaysAndIsntKept(t *testing.T) {
	for _, n := range []int{0, 1, 107, 108, 127, 128, 129, 300, 1920} {
		for _, spare := range []int{0, 100} {
			whole := slices.Clip([]byte(text(n+spare, 1)))
			before := slices.Clone(whole)
			b, s := whole[:n], text(n, 1) // with spare room behind, or without
			x := laid(t, 64)
			h, e := hoard.Lay(x, b)
			if e != api.OK || h.Keep(b) != api.OK {
				t.Fatalf("of %d bytes: %d", n, e)
			}
			y := x.Lose(nil)
			if h.Image(b) != api.OK || h.Keep(b) != api.OK || !slices.Equal(whole, before) {
				t.Errorf("what is handed in is changed, or its spare room")
			}
			stood := fmt.Sprint(all(t, x))
			fill(whole, 'x')
			if fmt.Sprint(all(t, x)) != stood {
				t.Error("what is handed in is kept")
			}
			images(t, h, "new", api.OK)
			opens(t, y, s, s)
			opens(t, x, "new")
		}
	}
	whole := []byte(text(most+100, 1))
	before := slices.Clone(whole)
	h := lays(t, laid(t, 64), "")
	if h.Image(whole) != api.ErrFull || h.Keep(whole) != api.ErrRange || h.Keep(whole[:most]) != api.ErrFull || !slices.Equal(whole, before) {
		t.Error("what is refused is changed")
	}
}

func TestP14_3AnswersAreNewMemory(t *testing.T) {
	x := laid(t, 70)
	image := []byte(text(1000, 1))
	h, e := hoard.Lay(x, image)
	if e != api.OK {
		t.Fatalf("Lay: %d", e)
	}
	answers, want := [][]byte{image}, []string(nil)
	for _, n := range []int{1, 108, 0, 109, 300, 300} {
		want = append(want, text(n, n))
		keeps(t, h, text(n, n), api.OK)
	}
	for range 5 {
		_, b, l, e := hoard.Open(x)
		if e != api.OK || string(b) != text(1000, 1) || !slices.Equal(texts(l), want) {
			t.Fatalf("Open: %q, %q, %d", b, l, e)
		}
		for _, a := range append(l, b) {
			for _, earlier := range answers {
				if sharesRoom(a, earlier) {
					t.Fatal("two answers share room")
				}
			}
			answers = append(answers, a)
		}
	}
	for _, a := range answers {
		fill(a, '!')
	}
	opens(t, x, text(1000, 1), want...)
	opens(t, x.Lose(nil), text(1000, 1), want...)
	// Nor does an answer hang on what is kept behind it.
	h, b, l, _ := hoard.Open(x)
	for k := range 3 {
		images(t, h, text(1100, k), api.OK)
		keeps(t, h, text(3000, k), api.OK)
	}
	if string(b) != text(1000, 1) || !slices.Equal(texts(l), want) {
		t.Errorf("what was opened is changed: %q, %q", b, texts(l))
	}
}

// What is kept is the tray: hoards of others stand alone.
func TestP10HoardsStandAlone(t *testing.T) {
	x, y := laid(t, 64), laid(t, 100)
	g, h := lays(t, x, "x"), lays(t, y, "y")
	keeps(t, g, "a", api.OK)
	images(t, h, "z", api.OK)
	keeps(t, h, "b", api.OK)
	keeps(t, h, "c", api.OK)
	power(t, x, 0)
	images(t, g, "new", api.ErrDead)
	has(t, g, 31, 1920)
	has(t, h, 48, 24*128)
	keeps(t, h, "d", api.OK)
	power(t, x, steps)
	keeps(t, g, "d", api.ErrDead)
	f := opens(t, x, "x", "a") // another one of the same tray has its own end
	keeps(t, f, "e", api.OK)
	keeps(t, g, "e", api.ErrDead)
	opens(t, x.Lose(nil), "x", "a", "e")
	opens(t, y.Lose(nil), "z", "b", "c", "d")
}

// R3 and R4: beside an error there is nothing, and nothing is changed.
func TestP10ErrorsChangeNothing(t *testing.T) {
	x := laid(t, 64)
	h := lays(t, x, "image")
	keeps(t, h, "a", api.OK)
	before := all(t, x)
	power(t, x, 6)
	for range 50 {
		keeps(t, h, text(most+1, 1), api.ErrRange)
		keeps(t, h, text(108*31+1, 1), api.ErrFull)
		images(t, h, text(1921, 1), api.ErrFull)
		laysNot(t, x, "new", api.ErrTwice)
		has(t, h, 31, 1920)
	}
	reads(t, x, before)
	keeps(t, h, "b", api.OK)
	images(t, h, "new", api.OK)
	images(t, h, "newer", api.ErrDead)
	if _, b, l, e := hoard.Open(x); b != nil || l != nil || e != api.ErrDead {
		t.Errorf("R3: Open: %q, %q, %d", b, l, e)
	}
	opens(t, x.Lose(nil), "new")
}

// R5: nil and nothing are the same image, and the same record.
func TestP10EmptyMeansTheSame(t *testing.T) {
	var first string
	for _, b := range [][]byte{nil, {}, make([]byte, 0, 9), []byte("abc")[:0]} {
		x := laid(t, 64)
		h, e := hoard.Lay(x, b)
		if e != api.OK || h.Keep(b) != api.OK || h.Image(b) != api.OK || h.Keep(b) != api.OK {
			t.Fatalf("of nothing: %d", e)
		}
		got := fmt.Sprint(all(t, x))
		if first == "" {
			first = got
		}
		if got != first {
			t.Error("R5: another tray")
		}
		opens(t, x, "", "")
	}
}

// R8: what is answered hangs on arguments, and on what the tray has.
func TestP10TheSameAgain(t *testing.T) {
	run := func() string {
		x := laid(t, 66)
		h := lays(t, x, "image")
		for k := range 200 {
			if b := text(k, k); h.Keep([]byte(b)) == api.ErrFull {
				images(t, h, b, api.OK)
			}
			if k%17 == 0 {
				h, _, _, _ = hoard.Open(x)
			}
		}
		return fmt.Sprint(all(t, x), h.Room(), h.Most())
	}
	if first := run(); run() != first || run() != first {
		t.Error("R8: it isn't the same")
	}
}

// Whatever stands on a tray, and whatever a call is given, it ends and doesn't
// panic.
func TestP9EveryCallEnds(t *testing.T) {
	m := rand.New(rand.NewSource(149))
	number := func() int { return m.Intn(1 << m.Intn(49)) }
	for range 3000 {
		x := laid(t, 4+m.Intn(100))
		for at := range x.Sectors() {
			p := piece(m.Intn(3), m.Intn(60), m.Intn(2), m.Intn(3), text(m.Intn(109), at))
			if m.Intn(3) == 0 {
				p = piece(number(), number(), number(), number(), text(108, at))
			}
			writes(t, x, at, p)
		}
		for at := range 2 {
			mk := mark{number(), number(), m.Intn(2), m.Intn(3000), number()}
			if m.Intn(3) > 0 {
				mk = mark{2*number() + at, 2 + m.Intn(3), m.Intn(5) / 2, m.Intn(2500), m.Intn(60)}
			}
			writes(t, x, at, mk.raw())
		}
		if m.Intn(3) == 0 {
			power(t, x, m.Intn(20))
		}
		callAll(t, x)
	}
}

func callAll(t *testing.T, x *tray.Tray) {
	t.Helper()
	for _, b := range [][]byte{nil, make([]byte, 1), make([]byte, 1<<17)} {
		if h, e := hoard.Lay(x, b); (e == api.OK) != (h != nil) {
			t.Fatalf("P9: Lay: %v, %d", h, e)
		}
	}
	h, b, l, e := hoard.Open(x)
	if (e == api.OK) != (h != nil) || e != api.OK && len(b)+len(l) > 0 {
		t.Fatalf("P9: Open: %v, %q, %q, %d", h, b, l, e)
	}
	if h == nil {
		return
	}
	for _, n := range []int{0, 1, 500, 1 << 11, 1 << 17} {
		h.Keep(make([]byte, n))
		h.Keep(nil)
		h.Image(make([]byte, n))
		if room := h.Room(); room < 0 || room > planOf(x.Sectors()).count || h.Most() != 128*planOf(x.Sectors()).size {
			t.Fatalf("P9: Room %d, Most %d", room, h.Most())
		}
	}
}
