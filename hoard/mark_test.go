package hoard_test

import (
	"fmt"
	"math/rand"
	"strings"
	"testing"

	"stile/api"
	"stile/tray"
)

// marked is a tray of 64 sectors with these on the sectors 0 and 1, images in
// its fields, and records on its ring: the number 5 of epoch 3, the others,
// from 6 to 9, of epoch 4.
func marked(t *testing.T, zero, one string) *tray.Tray {
	t.Helper()
	x, p := laid(t, 64), planOf(64)
	writes(t, x, 0, zero)
	writes(t, x, 1, one)
	for field, first := range p.fields {
		for k := range p.size {
			writes(t, x, first+k, text(api.Sector, 100*field+k))
		}
	}
	for n := 5; n < 10; n++ {
		writes(t, x, p.ring+n%p.count, piece(min(n-2, 4), n, 0, 1, fmt.Sprint(n)))
	}
	if e := x.Flush(); e != api.OK {
		t.Fatalf("Flush: %d", e)
	}
	return x
}

// inField is what the first bytes are of the image in a field.
func inField(field, bytes int) string {
	var b string
	for k := 0; len(b) < bytes; k++ {
		b += text(api.Sector, 100*field+k)
	}
	return b[:bytes]
}

// Of two marks the one with the greater turn counts, wherever it stands; what
// it tells is what is opened, and the other one is written over.
func TestP14_1TheMarkThatCounts(t *testing.T) {
	for _, c := range []struct {
		zero, one int // turns; below 0: no mark
	}{{0, 1}, {2, 1}, {2, 3}, {1 << 33, 3}, {6, 1<<40 + 1}, {0, -1}, {-1, 1}, {8, -1}, {-1, 7}, {1 << 47, 1<<47 - 1}, {six - 1, six - 2}} {
		zero, one := mark{c.zero, 3, 0, 300, 5}.raw(), mark{c.one, 4, 1, 400, 6}.raw()
		if c.zero < 0 {
			zero = ""
		}
		if c.one < 0 {
			one = ""
		}
		x := marked(t, zero, one)
		want := all(t, x)
		if c.zero > c.one {
			h := opens(t, x, inField(0, 300), "5")
			has(t, h, 31, 1920)
			want[1] = mark{c.zero + 1, 4, 0, 300, 5}.raw()
		} else {
			h := opens(t, x, inField(1, 400), "6", "7", "8", "9")
			has(t, h, 28, 1920)
			want[0] = mark{c.one + 1, 5, 1, 400, 6}.raw()
		}
		reads(t, x, want)
	}
}

// A mark that stands where another one must isn't one, nor is what isn't just
// so.
func TestP14_1NoMarks(t *testing.T) {
	good := mark{4, 4, 1, 200, 6}
	x := marked(t, good.raw(), "")
	opens(t, x, inField(1, 200), "6", "7", "8", "9")
	bare := func(name, zero, one string) {
		t.Helper()
		x := marked(t, zero, one)
		before := all(t, x)
		power(t, x, 0)
		t.Run(name, func(t *testing.T) {
			opensNot(t, x, api.ErrNone)
			if x.Dark() {
				t.Error("ErrNone does a step")
			}
			reads(t, x, before)
			power(t, x, steps)
			lays(t, x, "new")
		})
	}
	bare("nothing", "", "")
	bare("an even turn on sector 1", "", good.raw())
	bare("an odd turn on sector 0", mark{3, 4, 1, 200, 6}.raw(), "")
	bare("both on the wrong one", mark{5, 4, 1, 200, 6}.raw(), good.raw())
	bare("turn 1 on sector 0", mark{1, 1, 0, 0, 0}.raw(), "")
	bare("turn 0 on sector 1", "", mark{0, 1, 0, 0, 0}.raw())
	bare("another sign", good.odd(0x53, ""), "")
	bare("no sign", good.odd(0, ""), "")
	bare("the first nought", good.odd(0x4d, "\x01"), "")
	bare("the last nought", good.odd(0x4d, strings.Repeat("\x00", 92)+"\x80"), "")
	bare("noughts", strings.Repeat("\x00", 128), summed(""))
	for bit := range 8 * api.Sector {
		b := []byte(good.raw())
		b[bit/8] ^= 1 << (bit % 8)
		bare(fmt.Sprint("bit ", bit), string(b), "")
	}
}

// One that isn't a mark doesn't count, though it tells of a greater turn.
func TestP14_1TheOtherMarkCounts(t *testing.T) {
	greater := mark{9, 9, 0, 1, 0}
	broken := []byte(greater.raw())
	broken[127] ^= 1
	for _, other := range []string{string(broken), greater.odd(0x4c, ""), greater.odd(0x4d, "x"), mark{10, 9, 0, 1, 0}.raw(), ""} {
		x := marked(t, mark{4, 4, 1, 200, 6}.raw(), other)
		want := all(t, x)
		opens(t, x, inField(1, 200), "6", "7", "8", "9")
		want[1] = mark{5, 5, 1, 200, 6}.raw()
		reads(t, x, want)
	}
}

// What the mark that counts tells must be any: if not, it is rotten, whatever
// the other one tells.
func TestP14_1Rot(t *testing.T) {
	for name, bad := range map[string]mark{
		"field 2":               {6, 4, 2, 200, 6},
		"field 3":               {6, 4, 3, 0, 6},
		"the greatest field":    {6, 4, six, 0, 6},
		"field 256":             {6, 4, 256, 0, 6},
		"1 byte more":           {6, 4, 1, 1921, 6},
		"the most bytes":        {6, 4, 0, six, 6},
		"bytes of two fields":   {6, 4, 0, 3840, 6},
		"the greatest epoch":    {6, epochs, 1, 200, 6},
		"an epoch behind it":    {6, epochs + 1, 1, 200, 6},
		"a far epoch":           {6, six, 1, 200, 6},
		"an epoch that is cut":  {6, 1 << 32, 1, 200, 6},
		"the first head behind": {6, 4, 1, 200, steps + 1},
		"the greatest head":     {6, 4, 1, 200, six},
		"all":                   {6, six, six, six, six},
	} {
		for _, other := range []string{mark{5, 3, 0, 300, 5}.raw(), ""} {
			x := marked(t, bad.raw(), other)
			before := all(t, x)
			power(t, x, 0)
			t.Run(name, func(t *testing.T) {
				opensNot(t, x, api.ErrRot)
				laysNot(t, x, "", api.ErrTwice)
				laysNot(t, x, text(1921, 1), api.ErrTwice)
				if x.Dark() {
					t.Error("ErrRot does a step")
				}
				reads(t, x, before)
			})
		}
		// With the other one counting it isn't.
		x := marked(t, bad.raw(), mark{7, 4, 1, 400, 6}.raw())
		opens(t, x, inField(1, 400), "6", "7", "8", "9")
	}
}

// The greatest that a mark may tell.
func TestP14_1Greatest(t *testing.T) {
	x := marked(t, mark{4, 4, 1, 1920, 6}.raw(), "")
	opens(t, x, inField(1, 1920), "6", "7", "8", "9")
	x = marked(t, mark{4, epochs - 1, 0, 0, 5}.raw(), "")
	h := opens(t, x, "", "5", "6", "7", "8", "9")
	want := all(t, x)
	keeps(t, h, "a", api.OK)
	images(t, h, "image", api.OK)
	p := planOf(64)
	want[p.ring+10] = piece(epochs, 10, 0, 1, "a")
	want[0] = mark{6, epochs, 1, 5, 11}.raw()
	p.puts(want, 1, "image")
	reads(t, x, want)
	opensNot(t, x, api.ErrRot)
	x = marked(t, mark{4, 0, 0, 0, 5}.raw(), "") // epoch 0: the next one is any
	opens(t, x, "")
	x = marked(t, mark{4, 9, 0, 0, steps}.raw(), "")
	want = all(t, x)
	h = opens(t, x, "")
	keeps(t, h, "b", api.OK)
	want[1] = mark{5, 10, 0, 0, steps}.raw()
	want[p.ring+steps%p.count] = piece(10, steps, 0, 1, "b")
	reads(t, x, want)
	opens(t, x, "", "b")
	// The greatest turn has a next one, though no sector can tell it.
	x = marked(t, "", mark{six, 4, 1, 200, 6}.raw())
	opens(t, x, inField(1, 200), "6", "7", "8", "9")
}

// Records of the mark's epoch are found, and elder ones; none that is newer.
func TestP14_1EpochsOfRecords(t *testing.T) {
	for epoch, want := range []string{"", "", "", "5", "56789", "56789"} {
		x := marked(t, mark{4, epoch, 0, 9, 5}.raw(), "")
		h := opens(t, x, inField(0, 9), strings.Split(want, "")...)
		has(t, h, 32-len(want), 1920)
	}
	x := marked(t, mark{4, 4, 0, 9, 8}.raw(), "")
	opens(t, x, inField(0, 9), "8", "9")
	x = marked(t, mark{4, 4, 0, 9, 10}.raw(), "")
	opens(t, x, inField(0, 9))
	x = marked(t, mark{4, 4, 0, 9, 4}.raw(), "")
	opens(t, x, inField(0, 9))
}

// A mark's turn goes on, whatever it is, and the sectors take turns.
func TestP14_1TurnsGoOn(t *testing.T) {
	m := rand.New(rand.NewSource(141))
	for range 50 {
		turn, epoch, head := m.Intn(1<<m.Intn(47)), 1+m.Intn(1<<m.Intn(32)), m.Intn(1<<m.Intn(40))
		on := []string{"", ""}
		on[turn%2] = mark{turn, epoch, 1, 7, head}.raw()
		x, p := laid(t, 64), planOf(64)
		writes(t, x, 0, on[0])
		writes(t, x, 1, on[1])
		want := all(t, x)
		for k := range 5 {
			h := opens(t, x, string(make([]byte, 7)))
			want[(turn+1+2*k)%2] = mark{turn + 1 + 2*k, epoch + 1 + k, (k + 1) % 2, 7, head + k}.raw()
			reads(t, x, want)
			keeps(t, h, "r", api.OK)
			want[p.ring+(head+k)%p.count] = piece(epoch+1+k, head+k, 0, 1, "r")
			images(t, h, string(make([]byte, 7)), api.OK)
			want[(turn+2*k)%2] = mark{turn + 2 + 2*k, epoch + 1 + k, k % 2, 7, head + k + 1}.raw()
			reads(t, x, want)
		}
	}
}
