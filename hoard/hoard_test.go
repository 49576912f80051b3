package hoard_test

import (
	"fmt"
	"testing"

	"stile/api"
	"stile/tray"
)

func TestP14_1Example(t *testing.T) {
	x, want := littered(t, 66)
	h := lays(t, x, text(2048, 1))
	has(t, h, 32, 2048)
	laysNot(t, laid(t, 66), text(2049, 1), api.ErrFull)
	p := planOf(66)
	if p != (plan{fields: [2]int{2, 18}, size: 16, ring: 34, count: 32}) {
		t.Errorf("the plan: %v", p)
	}
	want[1] = mark{1, 1, 0, 2048, 0}.raw()
	p.puts(want, 0, text(2048, 1))
	reads(t, x, want)
}

// Trays of each size: where the parts stand.
func TestP14_1Plans(t *testing.T) {
	for sectors := 64; sectors <= 4096; sectors += 1 + sectors/10 {
		for rest := range 4 {
			if n := min(sectors+rest, 4096); n == sectors+rest {
				checkPlan(t, n)
			}
		}
	}
	checkPlan(t, 4096)
}

func checkPlan(t *testing.T, sectors int) {
	t.Helper()
	p := planOf(sectors)
	x, want := littered(t, sectors)
	bytes := p.size * api.Sector
	laysNot(t, x, text(bytes+1, 1), api.ErrFull)
	h := lays(t, x, text(bytes, 1))
	has(t, h, p.count, bytes)
	p.puts(want, 0, text(bytes, 1))
	want[1] = mark{1, 1, 0, bytes, 0}.raw()
	keeps(t, h, text(109, 2), api.OK)
	want[p.ring] = piece(1, 0, 0, 2, text(109, 2)[:108])
	want[p.ring+1] = piece(1, 1, 1, 2, text(109, 2)[108:])
	has(t, h, p.count-2, bytes)
	images(t, h, text(bytes+1, 3), api.ErrFull)
	images(t, h, text(bytes, 3), api.OK)
	p.puts(want, 1, text(bytes, 3))
	want[0] = mark{2, 1, 1, bytes, 2}.raw()
	has(t, h, p.count, bytes)
	for k := range p.count { // the ring's last sector is the tray's, then it goes round
		keeps(t, h, "", api.OK)
		want[p.ring+(2+k)%p.count] = piece(1, 2+k, 0, 1, "")
	}
	has(t, h, 0, bytes)
	keeps(t, h, "", api.ErrFull)
	reads(t, x, want)
	opens(t, x, text(bytes, 3), make([]string, p.count)...)
}

func TestP14_1TooFewSectors(t *testing.T) {
	for sectors := 4; sectors < 64; sectors++ {
		x := laid(t, sectors)
		writes(t, x, 1, mark{1, 1, 0, 0, 0}.raw())
		power(t, x, 0)
		for _, n := range []int{0, 1, 2048, 1 << 20} {
			laysNot(t, x, text(n, 1), api.ErrRange)
		}
		opensNot(t, x, api.ErrRange)
		if x.Dark() {
			t.Error("ErrRange does a step")
		}
	}
}

// Images of each length, laid and kept: their bytes, noughts behind, and no
// other sector.
func TestP14_1Lengths(t *testing.T) {
	for _, n := range []int{0, 1, 127, 128, 129, 255, 256, 257, 1000, 1919, 1920} { // 15 sectors
		x, want := littered(t, 64)
		p := planOf(64)
		h := lays(t, x, text(n, 1))
		p.puts(want, 0, text(n, 1))
		want[1] = mark{1, 1, 0, n, 0}.raw()
		reads(t, x, want)
		h = opens(t, x, text(n, 1))
		want[0] = mark{2, 2, 0, n, 0}.raw()
		reads(t, x, want)
		for k, m := range []int{1920 - n, n, 0, n} {
			field, b := (k+1)%2, text(m, k)
			images(t, h, b, api.OK)
			p.puts(want, field, b)
			turn := 3 + 2*k
			want[turn%2] = mark{turn, 2 + k, field, m, 0}.raw()
			reads(t, x, want)
			h = opens(t, x.Lose(nil), b)
			h = opens(t, x, b)
			want[(turn+1)%2] = mark{turn + 1, 3 + k, field, m, 0}.raw()
			reads(t, x, want)
		}
	}
}

// A hoard does its steps in order: an Open two, a Keep one for each sector and
// one, a Lay and an Image one for each sector and three.
func TestP14_1Steps(t *testing.T) {
	for _, n := range []int{0, 1, 108, 109, 128, 129, 1920} {
		b := text(n, 7)
		counts(t, imageTakes(b)+3, func(x *tray.Tray) { lays(t, x, b) })
		base := laid(t, 64)
		h := lays(t, base, "")
		keeps(t, h, "a", api.OK)
		images(t, h, b, api.OK)
		keeps(t, h, "b", api.OK)
		for _, do := range []struct {
			steps int
			what  func(x *tray.Tray)
		}{
			{2, func(x *tray.Tray) { opens(t, x, b, "b") }},
			{2 + recordTakes(b) + 1, func(x *tray.Tray) { keeps(t, opens(t, x, b, "b"), b, api.OK) }},
			{2 + imageTakes(b) + 3, func(x *tray.Tray) { images(t, opens(t, x, b, "b"), b, api.OK) }},
			{2 + 3, func(x *tray.Tray) { images(t, opens(t, x, b, "b"), "", api.OK) }},
		} {
			x := base.Lose(nil)
			countsOf(t, x, do.steps, do.what)
		}
	}
}

func counts(t *testing.T, n int, do func(x *tray.Tray)) {
	t.Helper()
	countsOf(t, laid(t, 64), n, do)
}

// countsOf: does it do so many steps?
func countsOf(t *testing.T, x *tray.Tray, n int, do func(x *tray.Tray)) {
	t.Helper()
	power(t, x, n)
	do(x)
	if x.Cached() != 0 {
		t.Error("its last step isn't a flush")
	}
	if x.Dark() || x.Flush() != api.ErrDead {
		t.Errorf("not %d steps", n)
	}
}

// With less power than it needs a Lay does so many of its steps, and no more.
func TestP14_1LayIsRefused(t *testing.T) {
	for _, n := range []int{0, 1, 128, 129, 300} {
		b, p := text(n, 3), planOf(64)
		image := imageTakes(b)
		for given := range image + 3 {
			x, want := littered(t, 64)
			power(t, x, given)
			laysNot(t, x, b, api.ErrDead)
			p.puts(want, 0, b[:min(n, given*api.Sector)])
			cached := given
			if given > image {
				cached = given - image - 1
			}
			if cached == 1 && given > image {
				want[1] = mark{1, 1, 0, n, 0}.raw()
			}
			if got := all(t, x); fmt.Sprint(got) != fmt.Sprint(want) || x.Cached() != cached || !x.Dark() {
				t.Errorf("Lay of %d bytes with %d steps: Cached %d, want %d", n, given, x.Cached(), cached)
			}
			opensNot(t, x.Lose(nil), api.ErrNone)
			power(t, x, steps)
			if cached == 1 && given > image { // it stands there, though it isn't flushed
				laysNot(t, x, b, api.ErrTwice)
				opens(t, x, b)
			} else {
				opensNot(t, x, api.ErrNone)
				lays(t, x, "another")
				opens(t, x, "another")
			}
		}
	}
}

// What is to be refused is refused in this order, without a step.
func TestP14_1LayIsRefusedInOrder(t *testing.T) {
	marked, bare := laid(t, 64), laid(t, 64)
	lays(t, marked, "image")
	for _, x := range []*tray.Tray{marked, bare} {
		power(t, x, 0)
	}
	before := all(t, marked)
	for _, n := range []int{0, 1, 1920, 1921, 1 << 20} {
		laysNot(t, marked, text(n, 1), api.ErrTwice)
		if n > 1920 {
			laysNot(t, bare, text(n, 1), api.ErrFull)
		}
	}
	if marked.Dark() || bare.Dark() {
		t.Error("what is refused does a step")
	}
	reads(t, marked, before)
	laysNot(t, bare, "", api.ErrDead)
	opensNot(t, laid(t, 64), api.ErrNone)
	opensNot(t, marked, api.ErrDead)
}

// Each Open sets the next mark, and gives its spool the next epoch.
func TestP14_1OpenedAgainAndAgain(t *testing.T) {
	x, want := littered(t, 70)
	p := planOf(70)
	h := lays(t, x, "image")
	p.puts(want, 0, "image")
	want[1] = mark{1, 1, 0, 5, 0}.raw()
	var records []string
	for k := range 300 {
		b, room := fmt.Sprint(k), p.count-len(records)
		has(t, h, room, 17*128)
		if room == 0 {
			keeps(t, h, b, api.ErrFull)
			break
		}
		keeps(t, h, b, api.OK)
		want[p.ring+k] = piece(1+k, k, 0, 1, b)
		reads(t, x, want)
		records = append(records, b)
		h = opens(t, x, "image", records...)
		want[k%2] = mark{2 + k, 2 + k, 0, 5, 0}.raw()
		reads(t, x, want)
	}
	if len(records) != p.count {
		t.Errorf("%d records", len(records))
	}
}

// A new image cuts the ring at its tail, whatever the ring had.
func TestP14_1ImagesCut(t *testing.T) {
	x, want := littered(t, 64)
	p, head := planOf(64), 0
	h := lays(t, x, "")
	want[1] = mark{1, 1, 0, 0, 0}.raw()
	for k := range 100 {
		head0, n := head, k*53%p.count
		for i := range n {
			b := fmt.Sprint(k, i)
			keeps(t, h, b, api.OK)
			want[p.ring+head%p.count] = piece(1, head, 0, 1, b)
			head++
		}
		has(t, h, p.count-(head-head0), 1920)
		b := fmt.Sprint("image", k)
		images(t, h, b, api.OK)
		has(t, h, p.count, 1920)
		turn, field := 2+k, (k+1)%2
		want[turn%2] = mark{turn, 1, field, len(b), head}.raw()
		p.puts(want, field, b)
		reads(t, x, want)
		opens(t, x.Lose(nil), b)
	}
}

// Keep: the spool's error, or OK.
func TestP14_1Keep(t *testing.T) {
	x := laid(t, 4096)
	h := lays(t, x, "image")
	p := planOf(4096)
	has(t, h, p.count, 1023*128)
	var want []string
	for _, n := range []int{0, 1, 107, 108, 109, 216, 217, most - 1, most} {
		room := h.Room()
		want = append(want, text(n, n))
		keeps(t, h, text(n, n), api.OK)
		keeps(t, h, text(most+1, n), api.ErrRange)
		has(t, h, room-recordTakes(text(n, n)), 1023*128)
	}
	h = opens(t, x.Lose(nil), "image", want...)
	room := h.Room()
	keeps(t, h, text(most, 1), api.OK)
	keeps(t, h, text(108*(room-556)+1, 1), api.ErrFull)
	keeps(t, h, text(108*(room-556), 2), api.OK)
	has(t, h, 0, 1023*128)
	keeps(t, h, "", api.ErrFull)
	keeps(t, h, text(most+1, 1), api.ErrRange)
	images(t, h, text(1023*128, 5), api.OK)
	has(t, h, p.count, 1023*128)
}

// Once a step was refused with an Image, each Keep and each Image is
// ErrDead, whatever power there is; but an image that is too long is ErrFull
// ahead of it.
func TestP14_1DeadByAnImage(t *testing.T) {
	for given := range 5 { // two sectors, a flush, the mark, a flush
		x := laid(t, 64)
		h := lays(t, x, "image")
		keeps(t, h, "record", api.OK)
		power(t, x, given)
		images(t, h, text(200, 1), api.ErrDead)
		after, cached := all(t, x), x.Cached()
		if want := []int{0, 1, 2, 0, 1}[given]; cached != want {
			t.Errorf("with %d steps: Cached %d, want %d", given, cached, want)
		}
		for _, n := range []int{steps, 0, 5} {
			power(t, x, n)
			for range 3 {
				for _, b := range []string{"", "a", text(108*99, 1), text(most+1, 1)} {
					keeps(t, h, b, api.ErrDead)
				}
				images(t, h, "", api.ErrDead)
				images(t, h, text(1920, 1), api.ErrDead)
				images(t, h, text(1921, 1), api.ErrFull)
				has(t, h, 31, 1920)
			}
			if x.Dark() || x.Cached() != cached || fmt.Sprint(all(t, x)) != fmt.Sprint(after) {
				t.Errorf("it goes on with %d steps", n)
			}
		}
		opens(t, x.Lose(nil), "image", "record")
	}
}

// Once a step was refused with a Keep, a Keep is what the spool says, and an
// Image ErrDead, without a step.
func TestP14_1DeadByAKeep(t *testing.T) {
	for given := range 3 { // two sectors, a flush
		x := laid(t, 64)
		h := lays(t, x, "image")
		keeps(t, h, "record", api.OK)
		power(t, x, given)
		keeps(t, h, text(200, 1), api.ErrDead)
		after := all(t, x)
		power(t, x, steps)
		for range 3 {
			keeps(t, h, "", api.ErrDead)
			keeps(t, h, text(108*31, 1), api.ErrDead)
			keeps(t, h, text(108*31+1, 1), api.ErrFull)
			keeps(t, h, text(most+1, 1), api.ErrRange)
			images(t, h, "", api.ErrDead)
			images(t, h, text(1920, 1), api.ErrDead)
			images(t, h, text(1921, 1), api.ErrFull)
			keeps(t, h, text(most+1, 1), api.ErrRange) // no Image did a step
			has(t, h, 31, 1920)
		}
		if x.Dark() || x.Cached() != given || fmt.Sprint(all(t, x)) != fmt.Sprint(after) {
			t.Errorf("it goes on: Cached %d of %d", x.Cached(), given)
		}
		opens(t, x.Lose(nil), "image", "record")
	}
}

// What is no refused step isn't the end of a hoard.
func TestP14_1OtherErrorsArentTheEnd(t *testing.T) {
	x := laid(t, 64)
	h := lays(t, x, "image")
	for k := range 3 {
		images(t, h, text(1921, 1), api.ErrFull)
		keeps(t, h, text(most+1, 1), api.ErrRange)
		keeps(t, h, text(108*33, 1), api.ErrFull)
		keeps(t, h, "record", api.OK)
		images(t, h, fmt.Sprint(k), api.OK)
		keeps(t, h, "behind", api.OK)
		opens(t, x.Lose(nil), fmt.Sprint(k), "behind")
	}
}
