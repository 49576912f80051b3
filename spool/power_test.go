package spool_test

import (
	"fmt"
	"math/rand"
	"slices"
	"testing"

	"stile/api"
	"stile/spool"
	"stile/tray"
)

// A history is a spool on its tray, and what must be found in it.
type history struct {
	x      *tray.Tray
	r      spool.Ring
	s      *spool.Spool
	head   int
	epoch  int
	kept   []string // appended with OK, since the head
	doing  string   // what was being appended, when the power went
	is     bool     // was something?
	writes int      // how many of its sectors were written
}

func begin(t *testing.T, sectors int, r spool.Ring, head int) history {
	t.Helper()
	x := laid(t, sectors)
	return history{x: x, r: r, s: opens(t, x, r, head, 1), head: head, epoch: 1}
}

// append appends a record with so much power.
func (h *history) append(t *testing.T, b string, power int) {
	t.Helper()
	h.x.Power(power)
	want := api.OK
	switch {
	case takes(len(b)) > h.s.Room():
		want = api.ErrFull
	case h.is:
		want = api.ErrDead
	case power <= takes(len(b)):
		want = api.ErrDead
		h.doing, h.is, h.writes = b, true, power
	default:
		h.kept = append(slices.Clone(h.kept), b)
	}
	appends(t, h.s, b, want)
}

func (h *history) cut() {
	h.s.Cut()
	h.head, h.kept = h.s.Head(), nil
}

// lose loses the power and opens the spool again: it has what was appended
// with OK, and what was being appended just if all of it came through.
func (h *history) lose(t *testing.T, choice []bool, later int) {
	t.Helper()
	if h.x.Cached() != h.writes {
		t.Fatalf("Cached: %d, want %d", h.x.Cached(), h.writes)
	}
	through := 0
	for k := range h.writes {
		if k < len(choice) && choice[k] {
			through++
		}
	}
	if h.is && through == takes(len(h.doing)) {
		h.kept = append(slices.Clone(h.kept), h.doing)
	}
	h.x, h.epoch = h.x.Lose(choice), h.epoch+later
	h.s = opens(t, h.x, h.r, h.head, h.epoch, h.kept...)
	h.doing, h.is, h.writes = "", false, 0
}

// eachChoice shows visit each choice of so many writes.
func eachChoice(n int, visit func(choice []bool)) {
	for bits := range 1 << n {
		c := make([]bool, n)
		for k := range c {
			c[k] = bits>>k&1 == 1
		}
		visit(c)
	}
}

// eachStep shows visit what comes of a history by one record more of each
// length up to three sectors, with each power, and each choice behind it.
func eachStep(t *testing.T, h history, seed int, visit func(h history)) {
	t.Helper()
	again := func(sectors, power int) history {
		g := h
		g.x = h.x.Lose(nil) // nothing lies in its cache
		g.s = opens(t, g.x, g.r, g.head, g.epoch, g.kept...)
		g.append(t, text(sectors*piece-seed, seed), power)
		return g
	}
	for sectors := 1; sectors <= 3; sectors++ {
		for power := range sectors + 2 {
			eachChoice(min(power, sectors), func(choice []bool) {
				g := again(sectors, power)
				if !g.is && slices.Contains(choice, false) {
					return // all was flushed: choices tell nothing
				}
				g.lose(t, choice, 1)
				visit(g)
			})
		}
	}
}

// P13.2: three records, one behind the other, each length, each step at which
// the power goes, each choice of what is kept.
func TestP13_2EachStepAndEachChoice(t *testing.T) {
	for _, head := range []int{0, 5} {
		h := begin(t, 8, ring(1, 6), head)
		h.append(t, "first", 9)
		h.lose(t, nil, 1)
		ends := 0
		eachStep(t, h, 1, func(h history) {
			eachStep(t, h, 2, func(h history) {
				if head == 5 {
					h.cut() // what is ahead lies behind the tail, a round ahead
				}
				eachStep(t, h, 3, func(h history) { ends++ })
			})
		})
		if ends < 10_000 {
			t.Errorf("only %d histories", ends)
		}
	}
}

// The greatest record, whose flush is refused: it is there just if all of it
// is.
func TestP13_2GreatestRecord(t *testing.T) {
	for _, missing := range []int{-1, 0, 1, 277, 554, 555} {
		h := begin(t, 600, ring(10, 580), 300)
		h.append(t, "first", 9)
		h.append(t, text(most, 1), 556)
		choice := slices.Repeat([]bool{true}, 556)
		if missing >= 0 {
			choice[missing] = false
		}
		h.lose(t, choice, 1)
		if (len(h.kept) == 2) != (missing < 0) {
			t.Errorf("without sector %d: %d records", missing, len(h.kept))
		}
		h.append(t, "behind", 9)
		h.lose(t, nil, 1)
	}
}

// Long histories, round and round on small rings.
func TestP13_2LongHistories(t *testing.T) {
	m, through, lost := rand.New(rand.NewSource(132)), 0, 0
	for range 300 {
		count := 2 + m.Intn(8)
		h := begin(t, 12, ring(m.Intn(12-count+1), count), m.Intn(100))
		for k := range 150 {
			switch m.Intn(4) {
			case 0:
				h.cut()
			case 1:
				had := len(h.kept)
				being := h.is
				var choice []bool
				for range h.writes {
					choice = append(choice, m.Intn(6) > 0)
				}
				h.lose(t, choice, 1+m.Intn(2)*m.Intn(1000))
				if being {
					through += len(h.kept) - had
					lost += 1 - len(h.kept) + had
				}
			default:
				h.append(t, fmt.Sprint(k, text(m.Intn(400), k)), m.Intn(8))
			}
		}
	}
	if through < 500 || lost < 500 {
		t.Errorf("only %d that came through, and %d that were lost", through, lost)
	}
}

// Opened again on the same tray, whose power is back, a spool has what was
// being appended, if all of it was written; it isn't flushed yet, and may be
// lost, but then all that is behind it is, too.
func TestP13_2OpenedAgainWithoutALoss(t *testing.T) {
	r := ring(1, 6)
	for power := range 3 {
		x := laid(t, 8)
		s := opens(t, x, r, 9, 1)
		appends(t, s, "kept", api.OK)
		x.Power(power)
		appends(t, s, text(200, 1), api.ErrDead)
		x.Power(steps)
		want := []string{"kept"}
		if power == 2 {
			want = append(want, text(200, 1))
		}
		s = opens(t, x, r, 9, 2, want...)
		x.Power(2)
		appends(t, s, text(200, 2), api.ErrDead)
		eachChoice(power+2, func(choice []bool) {
			y, want := x.Lose(choice), []string{"kept"}
			switch all := !slices.Contains(choice, false); {
			case power == 2 && all:
				want = append(want, text(200, 1), text(200, 2))
			case power == 2 && choice[0] && choice[1]:
				want = append(want, text(200, 1))
			case power < 2 && choice[power] && choice[power+1]:
				want = append(want, text(200, 2))
			}
			z := opens(t, y, r, 9, 3, want...)
			// What is behind doesn't come back, whatever stands ahead of it.
			appends(t, z, "new", api.OK)
			opens(t, y, r, 9, 4, append(want, "new")...)
		})
		x.Power(steps)
		s = opens(t, x, r, 9, 3, append(want, text(200, 2))...)
		appends(t, s, "", api.OK)
		opens(t, x.Lose(nil), r, 9, 4, append(want, text(200, 2), "")...)
	}
}

// An elder try whose sectors stand behind a newer record stays lost.
func TestP13_2ElderTries(t *testing.T) {
	r := ring(0, 6)
	for k := range 6 {
		h := begin(t, 6, r, 6+k)
		h.append(t, text(540, 1), 5)
		h.lose(t, []bool{false, true, true, true, true}, 1)
		for seed := range 4 { // the same length, too, and the same bytes
			h.append(t, text(540, 1+seed/2), 5)
			h.lose(t, []bool{seed%2 == 0, true, false, true, true}, 1)
		}
		h.append(t, text(108, 1), 2)
		h.lose(t, nil, 1)
		h.append(t, "", 2)
		h.lose(t, nil, 1)
		h.append(t, text(432, 3), 5)
		h.lose(t, nil, 1)
		if len(h.kept) != 3 || h.s.Room() != 0 {
			t.Errorf("%d records, Room %d", len(h.kept), h.s.Room())
		}
	}
}
