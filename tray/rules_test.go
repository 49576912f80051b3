package tray_test

import (
	"fmt"
	"math"
	"slices"
	"strings"
	"testing"
	"unsafe"

	"stile/api"
	"stile/tray"
)

// sharesRoom: has b, with its spare room, a byte of a's, with its?
func sharesRoom(a, b []byte) bool {
	from, to := uintptr(unsafe.Pointer(unsafe.SliceData(a))), uintptr(unsafe.Pointer(unsafe.SliceData(b)))
	return cap(a) > 0 && cap(b) > 0 && from < to+uintptr(cap(b)) && to < from+uintptr(cap(a))
}

// fill fills what was handed in or answered, and its spare room, with x.
func fill[T any](l []T, x T) {
	l = l[:cap(l)]
	for k := range l {
		l[k] = x
	}
}

func TestP12_3WhatIsWrittenStaysAndIsntKept(t *testing.T) {
	for _, n := range []int{0, 1, 100, 127, 128} {
		whole := []byte(strings.Repeat("#", 200))
		b := whole[10 : 10+n]
		fill(b[:n:n], 'b')
		before := slices.Clone(whole)
		x, s := laid(t, 4), string(b)
		if e := x.Write(2, b); e != api.OK {
			t.Fatalf("Write of %d bytes: %d", n, e)
		}
		// Behind it are noughts, not its spare room.
		has(t, x, "", "", s)
		y := x.Lose([]bool{true})
		if x.Write(4, b) != api.ErrRange || x.Write(2, whole) != api.ErrRange || !slices.Equal(whole, before) {
			t.Errorf("what is written is changed, or its spare room: %q", whole)
		}
		fill(whole, 'x')
		has(t, x, "", "", s)
		has(t, y, "", "", s)
		has(t, x.Lose([]bool{true}), "", "", s)
		flushes(t, x, api.OK)
		has(t, x, "", "", s)
		has(t, x.Lose(nil), "", "", s)
	}
}

func TestP12_3WhatIsReadIsNewMemory(t *testing.T) {
	x := laid(t, 4)
	writes(t, x, 0, "a", api.OK)
	flushes(t, x, api.OK)
	writes(t, x, 0, "b", api.OK)
	writes(t, x, 1, "c", api.OK)
	y := x.Lose([]bool{true})
	var answers [][]byte
	for range 10 {
		for at := range 4 {
			for _, z := range []*tray.Tray{x, y} {
				b, _ := z.Read(at)
				for _, earlier := range answers {
					if sharesRoom(b, earlier) {
						t.Fatal("two answers share room")
					}
				}
				answers = append(answers, b)
			}
		}
	}
	for _, b := range answers {
		fill(b, '!')
	}
	has(t, x, "b", "c")
	has(t, x.Lose(nil), "a")
	has(t, x.Lose([]bool{true, true}), "b", "c")
	has(t, y, "b")
	has(t, y.Lose(nil), "b")
	// Nor does an answer hang on what is written behind it.
	b, _ := x.Read(0)
	writes(t, x, 0, "d", api.OK)
	flushes(t, x, api.OK)
	if string(b) != full("b") {
		t.Errorf("what was read is changed by a write: %q", b)
	}
}

func TestP12_3ChoicesStayAndArentKept(t *testing.T) {
	x := laid(t, 4)
	for at := range 4 {
		writes(t, x, at, fmt.Sprint(at), api.OK)
	}
	whole := []bool{true, true, false, true, true, true}
	before := slices.Clone(whole)
	y := x.Lose(whole[1:3]) // its spare room tells of no write
	if !slices.Equal(whole, before) {
		t.Error("a choice is changed, or its spare room")
	}
	has(t, y, "0")
	fill(whole, false)
	has(t, y, "0")
	fill(whole, true)
	has(t, y, "0")
	for _, none := range [][]bool{nil, {}, whole[:0], make([]bool, 0, 5)} { // R5
		has(t, x.Lose(none))
	}
}

// A tray that lost its power, and what comes of it, have nothing in common.
func TestP12_3WhatComesOfALossIsNewMemory(t *testing.T) {
	x := laid(t, 4)
	writes(t, x, 0, "a", api.OK)
	flushes(t, x, api.OK)
	writes(t, x, 1, "b", api.OK)
	writes(t, x, 2, "c", api.OK)
	y, z := x.Lose([]bool{true}), x.Lose([]bool{true})
	writes(t, y, 0, "d", api.OK)
	writes(t, y, 3, "e", api.OK)
	flushes(t, y, api.OK)
	writes(t, y, 1, "f", api.OK)
	powers(t, y, 0, api.OK)
	flushes(t, y, api.ErrDead)
	has(t, y, "d", "f", "", "e")
	has(t, y.Lose(nil), "d", "b", "", "e")
	has(t, z, "a", "b")
	has(t, z.Lose(nil), "a", "b")
	has(t, x, "a", "b", "c")
	has(t, x.Lose(nil), "a")
	has(t, x.Lose([]bool{true, true}), "a", "b", "c")
	stands(t, x, 2, false)
	stands(t, z, 0, false)
	writes(t, x, 0, "g", api.OK)
	flushes(t, x, api.OK)
	has(t, x, "g", "b", "c")
	has(t, y, "d", "f", "", "e")
	has(t, y.Lose(nil), "d", "b", "", "e")
	has(t, z, "a", "b")
	has(t, z.Lose(nil), "a", "b")
}

// R3 and R4: beside an error there is nothing, and nothing is changed.
func TestP10ErrorsChangeNothing(t *testing.T) {
	x := laid(t, 4)
	writes(t, x, 0, "a", api.OK)
	flushes(t, x, api.OK)
	powers(t, x, 3, api.OK)
	writes(t, x, 1, "b", api.OK)
	for range 100 {
		writes(t, x, 4, "c", api.ErrRange)
		writes(t, x, -1, "c", api.ErrRange)
		writes(t, x, 0, strings.Repeat("c", 129), api.ErrRange)
		powers(t, x, -1, api.ErrRange)
		powers(t, x, 1<<40+1, api.ErrRange)
		if b, e := x.Read(4); b != nil || e != api.ErrRange {
			t.Errorf("R3: Read: %q, %d", b, e)
		}
		has(t, x, "a", "b")
		has(t, x.Lose(nil), "a")
		stands(t, x, 1, false)
	}
	// Two steps are left.
	writes(t, x, 2, "d", api.OK)
	writes(t, x, 3, "e", api.OK)
	writes(t, x, 3, "f", api.ErrDead)
	has(t, x, "a", "b", "d", "e")
	has(t, x.Lose(slices.Repeat([]bool{true}, 9)), "a", "b", "d", "e")
}

// R8: answers hang on arguments, and on what the tray keeps: not on other
// trays, nor on how often it is asked.
func TestP10TraysStandAlone(t *testing.T) {
	var l []*tray.Tray
	for n := range 20 {
		x := laid(t, 4+n)
		powers(t, x, 2*n, api.OK)
		l = append(l, x)
	}
	for k := range 20 {
		for n, x := range l {
			if k >= n {
				flushes(t, x, api.ErrDead)
				continue
			}
			writes(t, x, n%4, fmt.Sprint(n, k), api.OK)
			flushes(t, x, api.OK)
		}
	}
	for n, x := range l {
		want := make([]string, 4)
		if n > 0 {
			want[n%4] = fmt.Sprint(n, n-1)
		}
		for range 3 {
			has(t, x, want...)
			has(t, x.Lose(nil), want...)
			stands(t, x, 0, true)
		}
		if x.Sectors() != 4+n {
			t.Errorf("R8: %d sectors, want %d", x.Sectors(), 4+n)
		}
	}
}

// Whatever a call is given, it ends and doesn't panic.
func TestP9EveryCallEnds(t *testing.T) {
	ints := []int{math.MinInt, math.MinInt32, -4097, -129, -1, 0, 1, 3, 4, 5, 127, 4096, 4097, 1 << 31, 1 << 40, math.MaxInt - 1, math.MaxInt}
	blocks := [][]byte{nil, {}, make([]byte, 1), make([]byte, 128), make([]byte, 129), make([]byte, 1<<24)}
	choices := [][]bool{nil, {}, {true}, make([]bool, 1<<20), slices.Repeat([]bool{true}, 1<<20)}
	for _, n := range ints {
		x, e := tray.New(n)
		if (e == api.OK) != (x != nil) {
			t.Errorf("P9: New(%d): %v, %d", n, x, e)
		}
		if e != api.OK {
			x = laid(t, 4)
		}
		for _, steps := range ints {
			x.Power(steps)
			for _, at := range ints {
				for _, b := range blocks {
					x.Write(at, b)
				}
				x.Read(at)
				x.Flush()
			}
			x.Write(0, nil)
			for _, c := range choices {
				y := x.Lose(c)
				y.Flush()
				y.Cached()
			}
			x.Sectors()
			x.Dark()
		}
	}
}

// A cache has no limit of its own, and its length slows nothing that is read.
func TestP9ManyWrites(t *testing.T) {
	const most = 1 << 18
	x := laid(t, 4096)
	for k := range most {
		if e := x.Write(k%4096, []byte(fmt.Sprint(k))); e != api.OK {
			t.Fatalf("Write: %d", e)
		}
		if got := read(t, x, k%4096); got != full(fmt.Sprint(k)) {
			t.Fatalf("sector %d is %q, want %d", k%4096, got, k)
		}
	}
	stands(t, x, most, false)
	choice := slices.Repeat([]bool{true}, most)
	y := x.Lose(choice[:most-4096])
	for at := range 4096 {
		if got := read(t, y, at); got != full(fmt.Sprint(most-2*4096+at)) {
			t.Fatalf("sector %d is %q", at, got)
		}
	}
	flushes(t, x, api.OK)
	stands(t, x, 0, false)
	if got := read(t, x.Lose(nil), 7); got != full(fmt.Sprint(most-4096+7)) {
		t.Errorf("sector 7 is %q", got)
	}
}
