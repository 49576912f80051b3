package tray_test

import (
	"math"
	"strings"
	"testing"

	"stile/api"
	"stile/tray"
)

// laid is a new tray of so many sectors.
func laid(t *testing.T, sectors int) *tray.Tray {
	t.Helper()
	x, e := tray.New(sectors)
	if x == nil || e != api.OK {
		t.Fatalf("New(%d): %v, %d", sectors, x, e)
	}
	return x
}

// full are the bytes of a sector: those of s, and noughts behind.
func full(s string) string { return s + strings.Repeat("\x00", api.Sector-len(s)) }

// read is a sector, as it is read.
func read(t *testing.T, x *tray.Tray, at int) string {
	t.Helper()
	b, e := x.Read(at)
	if e != api.OK || len(b) != api.Sector {
		t.Fatalf("Read(%d): %q, %d", at, b, e)
	}
	return string(b)
}

// has: are the sectors, from 0 on, so, and noughts behind?
func has(t *testing.T, x *tray.Tray, want ...string) {
	t.Helper()
	for at := range x.Sectors() {
		s := ""
		if at < len(want) {
			s = want[at]
		}
		if got := read(t, x, at); got != full(s) {
			t.Errorf("sector %d is %q, want %q", at, got, full(s))
		}
	}
}

// writes writes, and it answers so.
func writes(t *testing.T, x *tray.Tray, at int, s string, want api.Errno) {
	t.Helper()
	if e := x.Write(at, []byte(s)); e != want {
		t.Errorf("Write(%d, %.9q): %d, want %d", at, s, e, want)
	}
}

// flushes flushes, and it answers so.
func flushes(t *testing.T, x *tray.Tray, want api.Errno) {
	t.Helper()
	if e := x.Flush(); e != want {
		t.Errorf("Flush: %d, want %d", e, want)
	}
}

// powers gives power, and it answers so.
func powers(t *testing.T, x *tray.Tray, steps int, want api.Errno) {
	t.Helper()
	if e := x.Power(steps); e != want {
		t.Errorf("Power(%d): %d, want %d", steps, e, want)
	}
}

// stands: has it so many writes in the cache, and is it so dark?
func stands(t *testing.T, x *tray.Tray, cached int, dark bool) {
	t.Helper()
	if x.Cached() != cached || x.Dark() != dark {
		t.Errorf("Cached: %d, Dark: %v, want %d, %v", x.Cached(), x.Dark(), cached, dark)
	}
}

func TestP12_1Example(t *testing.T) {
	x := laid(t, 4)
	writes(t, x, 1, "a", api.OK)
	flushes(t, x, api.OK)
	writes(t, x, 1, "b", api.OK)
	writes(t, x, 2, "c", api.OK)
	has(t, x.Lose([]bool{false, true}), "", "a", "c")
}

func TestP12_1New(t *testing.T) {
	for _, n := range []int{math.MinInt, -4096, -4, -1, 0, 1, 3, 4097, 1 << 20, 1 << 40, 1<<32 + 4, math.MaxInt} {
		if x, e := tray.New(n); x != nil || e != api.ErrRange {
			t.Errorf("New(%d): %v, %d, want none, ErrRange", n, x, e)
		}
	}
	for _, n := range []int{4, 5, 63, 64, 4095, 4096} {
		x := laid(t, n)
		if x.Sectors() != n {
			t.Errorf("New(%d): %d sectors", n, x.Sectors())
		}
		has(t, x)
		has(t, x.Lose(nil))
		stands(t, x, 0, false)
		writes(t, x, n-1, "z", api.OK)
		writes(t, x, n, "z", api.ErrRange)
		if read(t, x, n-1) != full("z") || read(t, x, 0) != full("") {
			t.Errorf("the sectors of %d", n)
		}
		if y := x.Lose(nil); y.Sectors() != n {
			t.Errorf("Lose: %d sectors, want %d", y.Sectors(), n)
		}
	}
}

func TestP12_1NoSuchSector(t *testing.T) {
	for _, n := range []int{4, 100, 4096} {
		x := laid(t, n)
		for _, at := range []int{math.MinInt, -4096, -1, n, n + 1, 1 << 32, math.MaxInt} {
			writes(t, x, at, "a", api.ErrRange)
			if b, e := x.Read(at); b != nil || e != api.ErrRange {
				t.Errorf("Read(%d) of %d: %q, %d", at, n, b, e)
			}
		}
		stands(t, x, 0, false)
		has(t, x)
	}
}

func TestP12_1Write(t *testing.T) {
	every := strings.Repeat("\xff", api.Sector)
	x := laid(t, 5)
	for _, s := range []string{"", "a", "a\x00b", "\x00", "\xff\x80", strings.Repeat("b", 64), every[:127], every} {
		// Whatever stood there before, what is behind is noughts.
		for _, before := range []string{every, ""} {
			writes(t, x, 2, before, api.OK)
			writes(t, x, 2, s, api.OK)
			has(t, x, "", "", s)
			flushes(t, x, api.OK)
			has(t, x, "", "", s)
			has(t, x.Lose(nil), "", "", s)
		}
	}
	for _, n := range []int{129, 130, 256, 1 << 16} {
		writes(t, x, 2, strings.Repeat("c", n), api.ErrRange)
	}
	writes(t, x, 5, strings.Repeat("c", 129), api.ErrRange)
	stands(t, x, 0, false)
	has(t, x, "", "", every)
	if x.Write(2, nil) != api.OK {
		t.Error("Write of nil")
	}
	has(t, x)
}

// What is written is read at once, flushed or not; the last one counts.
func TestP12_1Read(t *testing.T) {
	x := laid(t, 4)
	writes(t, x, 0, "a", api.OK)
	writes(t, x, 3, "bb", api.OK)
	has(t, x, "a", "", "", "bb")
	writes(t, x, 0, "c", api.OK)
	writes(t, x, 0, "d", api.OK)
	has(t, x, "d", "", "", "bb")
	flushes(t, x, api.OK)
	has(t, x, "d", "", "", "bb")
	writes(t, x, 3, "e", api.OK)
	writes(t, x, 1, "f", api.OK)
	has(t, x, "d", "f", "", "e")
	has(t, x.Lose(nil), "d", "", "", "bb")
}

func TestP12_1Cached(t *testing.T) {
	x := laid(t, 4)
	flushes(t, x, api.OK)
	for n := range 3000 {
		stands(t, x, n, false)
		writes(t, x, n/2%4, "same", api.OK) // twice the same one, too
		writes(t, x, 4, "same", api.ErrRange)
		x.Read(n % 4)
	}
	stands(t, x.Lose(nil), 0, false)
	stands(t, x, 3000, false)
	for range 2 {
		flushes(t, x, api.OK)
		stands(t, x, 0, false)
	}
	writes(t, x, 1, "", api.OK)
	stands(t, x, 1, false)
}

// What is flushed stays behind each loss, and no flush takes back what was
// flushed before.
func TestP12_1Flush(t *testing.T) {
	x := laid(t, 4)
	has(t, x.Lose(nil))
	writes(t, x, 1, "a", api.OK)
	writes(t, x, 1, "b", api.OK)
	writes(t, x, 2, "c", api.OK)
	flushes(t, x, api.OK)
	has(t, x.Lose(nil), "", "b", "c")
	has(t, x.Lose([]bool{true, false}), "", "b", "c") // no write lies in the cache
	flushes(t, x, api.OK)
	has(t, x.Lose(nil), "", "b", "c")
	writes(t, x, 2, "d", api.OK)
	flushes(t, x, api.OK)
	has(t, x.Lose(nil), "", "b", "d")
	has(t, x, "", "b", "d")
}

func TestP12_1PowersRange(t *testing.T) {
	x := laid(t, 4)
	for _, n := range []int{0, 1, 1<<40 - 1, 1 << 40} {
		powers(t, x, n, api.OK)
	}
	powers(t, x, 1, api.OK)
	for _, n := range []int{math.MinInt, -1 << 40, -1, 1<<40 + 1, 1 << 41, math.MaxInt} {
		powers(t, x, n, api.ErrRange)
	}
	// Its power is as it was.
	flushes(t, x, api.OK)
	flushes(t, x, api.ErrDead)
	stands(t, x, 0, true)
	for _, n := range []int{-1, 1<<40 + 1} {
		powers(t, x, n, api.ErrRange)
		stands(t, x, 0, true)
		flushes(t, x, api.ErrDead)
	}
	// Nor does one that is refused end a power that has no end.
	x = laid(t, 4)
	powers(t, x, -1, api.ErrRange)
	for range 100 {
		flushes(t, x, api.OK)
	}
}

// With a power of n steps, whichever they are, n are done, and no more.
func TestP12_1Power(t *testing.T) {
	for n := range 12 {
		for kinds := range 1 << min(n+1, 8) {
			x := laid(t, 4)
			powers(t, x, n, api.OK)
			cached := 0
			for k := range n {
				stands(t, x, cached, false)
				if kinds>>k&1 == 0 {
					writes(t, x, 0, "a", api.OK)
					cached++
				} else {
					flushes(t, x, api.OK)
					cached = 0
				}
			}
			stands(t, x, cached, false)
			if kinds>>n&1 == 0 {
				writes(t, x, 0, "b", api.ErrDead)
			} else {
				flushes(t, x, api.ErrDead)
			}
			stands(t, x, cached, true)
		}
	}
}

// What isn't done takes no power, and makes nothing dark; nor does what is no
// step.
func TestP12_1WhatIsNoStep(t *testing.T) {
	for _, n := range []int{0, 1, 2} {
		x := laid(t, 4)
		powers(t, x, n, api.OK)
		for range 5 {
			writes(t, x, -1, "", api.ErrRange)
			writes(t, x, 4, "", api.ErrRange)
			writes(t, x, 0, strings.Repeat("a", 129), api.ErrRange)
			powers(t, x, -1, api.ErrRange)
			x.Read(0)
			x.Read(4)
			x.Lose([]bool{true}).Flush()
			x.Sectors()
			stands(t, x, 0, false)
		}
		for range n {
			flushes(t, x, api.OK)
		}
		stands(t, x, 0, false)
		flushes(t, x, api.ErrDead)
		stands(t, x, 0, true)
	}
}

// What is refused changes nothing but that it is dark; it is refused till
// there is power again.
func TestP12_1Dark(t *testing.T) {
	x := laid(t, 4)
	powers(t, x, 4, api.OK)
	writes(t, x, 0, "a", api.OK)
	flushes(t, x, api.OK)
	writes(t, x, 0, "b", api.OK)
	writes(t, x, 1, "c", api.OK)
	for range 10 {
		flushes(t, x, api.ErrDead)
		writes(t, x, 0, "d", api.ErrDead)
		writes(t, x, 2, "d", api.ErrDead)
		writes(t, x, 4, "d", api.ErrRange) // its own error goes ahead
		writes(t, x, 0, strings.Repeat("d", 129), api.ErrRange)
		stands(t, x, 2, true)
		has(t, x, "b", "c")
		has(t, x.Lose(nil), "a")
		has(t, x.Lose([]bool{true, true, true, true}), "b", "c")
	}
	powers(t, x, 0, api.OK)
	stands(t, x, 2, false)
	writes(t, x, 0, "d", api.ErrDead)
	stands(t, x, 2, true)
	powers(t, x, 2, api.OK)
	stands(t, x, 2, false)
	writes(t, x, 0, "e", api.OK)
	stands(t, x, 3, false)
	flushes(t, x, api.OK)
	stands(t, x, 0, false)
	flushes(t, x, api.ErrDead)
	has(t, x, "e", "c")
	has(t, x.Lose(nil), "e", "c")
}

// A power is told anew, not added to the one before.
func TestP12_1PowerAgain(t *testing.T) {
	x := laid(t, 4)
	powers(t, x, 5, api.OK)
	flushes(t, x, api.OK)
	powers(t, x, 1, api.OK)
	flushes(t, x, api.OK)
	flushes(t, x, api.ErrDead)
	powers(t, x, 1, api.OK)
	powers(t, x, 3, api.OK)
	for range 3 {
		flushes(t, x, api.OK)
	}
	flushes(t, x, api.ErrDead)
	powers(t, x, 1<<40, api.OK)
	for range 1000 {
		flushes(t, x, api.OK)
	}
}

// Chosen writes, in order, over what was kept; no, where it isn't told.
func TestP12_1Lose(t *testing.T) {
	x := laid(t, 4)
	writes(t, x, 0, "a", api.OK)
	writes(t, x, 1, "b", api.OK)
	flushes(t, x, api.OK)
	writes(t, x, 0, "c", api.OK)
	writes(t, x, 1, "d", api.OK)
	writes(t, x, 0, "e", api.OK)
	writes(t, x, 3, "f", api.OK)
	for choice, want := range map[string]string{
		"": "ab..", "n": "ab..", "nnnn": "ab..", "nnnnn": "ab..", "nnnny": "ab..", "nnnnyyyyy": "ab..",
		"y": "cb..", "ny": "ad..", "nny": "eb..", "nnny": "ab.f", "yy": "cd..", "yny": "eb..", "ynny": "cb.f",
		"yyy": "ed..", "yyny": "cd.f", "ynyy": "eb.f", "nyyy": "ed.f", "yyyy": "ed.f", "yyyyy": "ed.f", "yyyyn": "ed.f",
	} {
		var l []bool
		for _, r := range choice {
			l = append(l, r == 'y')
		}
		var sectors []string
		for _, r := range strings.ReplaceAll(want, ".", "\x00") {
			sectors = append(sectors, string(r))
		}
		y := x.Lose(l)
		has(t, y, sectors...)
		stands(t, y, 0, false)
		// What came of it is kept.
		has(t, y.Lose(nil), sectors...)
		has(t, y.Lose([]bool{true, true, true, true}), sectors...)
		flushes(t, y, api.OK)
		has(t, y, sectors...)
	}
	stands(t, x, 4, false)
	has(t, x, "e", "d", "", "f")
}

// Behind a loss the power has no end; the tray that lost it stays as it is.
func TestP12_1PowerBehindALoss(t *testing.T) {
	for _, n := range []int{0, 1, 3} {
		for _, dark := range []bool{false, true} {
			x := laid(t, 4)
			powers(t, x, n, api.OK)
			if dark {
				for range n {
					flushes(t, x, api.OK)
				}
				flushes(t, x, api.ErrDead)
			}
			y := x.Lose(nil)
			stands(t, y, 0, false)
			for range 100 {
				writes(t, y, 1, "a", api.OK)
				flushes(t, y, api.OK)
			}
			stands(t, y, 0, false)
			stands(t, x, 0, dark)
			if dark {
				flushes(t, x, api.ErrDead)
				continue
			}
			for range n {
				flushes(t, x, api.OK)
			}
			flushes(t, x, api.ErrDead)
		}
	}
}
