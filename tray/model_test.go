package tray_test

import (
	"fmt"
	"math/rand"
	"slices"
	"strings"
	"testing"

	"stile/api"
	"stile/tray"
)

// A model has all steps that were done, from the beginning on, and goes
// through them whenever it is asked.
type model struct {
	sectors int
	done    []step
	steps   int // those that are left; below 0: no end
	dark    bool
}

// A step is a write, or (at below 0) a flush.
type step struct {
	at int
	to string
}

func newModel(sectors int) *model { return &model{sectors: sectors, steps: -1} }

// may: is there power for a step?
func (m *model) may() bool {
	if m.steps == 0 {
		m.dark = true
		return false
	}
	m.steps--
	return true
}

func (m *model) do(s step) api.Errno {
	switch {
	case s.at >= m.sectors || len(s.to) > api.Sector:
		return api.ErrRange
	case !m.may():
		return api.ErrDead
	}
	m.done = append(m.done, s)
	return api.OK
}

// flushed is how many steps are done up to the last flush.
func (m *model) flushed() int {
	for k := len(m.done); k > 0; k-- {
		if m.done[k-1].at < 0 {
			return k
		}
	}
	return 0
}

func (m *model) cache() []step { return m.done[m.flushed():] }

// of is what a sector is, once these were done.
func of(l []step, at int) string {
	for _, s := range slices.Backward(l) {
		if s.at == at {
			return full(s.to)
		}
	}
	return full("")
}

// lost is a model of what comes of a loss.
func (m *model) lost(choice []bool) *model {
	y := newModel(m.sectors)
	y.done = slices.Clone(m.done[:m.flushed()])
	for k, s := range m.cache() {
		if k < len(choice) && choice[k] {
			y.done = append(y.done, s)
		}
	}
	y.done = append(y.done, step{at: -1})
	return y
}

// same: does a tray tell what its model tells?
func same(t *testing.T, x *tray.Tray, m *model) {
	t.Helper()
	if x.Sectors() != m.sectors || x.Cached() != len(m.cache()) || x.Dark() != m.dark {
		t.Fatalf("%v: Sectors: %d, Cached: %d, Dark: %v", m, x.Sectors(), x.Cached(), x.Dark())
	}
	for at := range m.sectors {
		if got := read(t, x, at); got != of(m.done, at) {
			t.Fatalf("%v: sector %d is %q, want %q", m, at, got, of(m.done, at))
		}
	}
}

func doStep(x *tray.Tray, s step) api.Errno {
	if s.at < 0 {
		return x.Flush()
	}
	return x.Write(s.at, []byte(s.to))
}

// A maker makes things by numbers that are the same each time.
type maker struct{ *rand.Rand }

func newMaker(seed int64) maker { return maker{rand.New(rand.NewSource(seed))} }

func (m maker) step(sectors int) step {
	switch m.Intn(8) {
	case 0:
		return step{at: -1}
	case 1:
		return step{at: m.Intn(2 * sectors), to: strings.Repeat("z", m.Intn(2*api.Sector))}
	}
	return step{at: m.Intn(sectors), to: fmt.Sprint(m.Intn(1000))}
}

func (m maker) choice(n int) []bool {
	var l []bool
	for range m.Intn(n + 3) {
		l = append(l, m.Intn(2) == 0)
	}
	return l
}

// Trays against their models, over steps, powers and losses.
func TestP12_1AgainstAModel(t *testing.T) {
	m := newMaker(121)
	for range 400 {
		sectors := 4 + m.Intn(6)
		x, want := laid(t, sectors), newModel(sectors)
		for range 60 {
			switch m.Intn(20) {
			case 0:
				n := m.Intn(12)
				powers(t, x, n, api.OK)
				want.steps, want.dark = n, false
			case 1:
				c := m.choice(x.Cached())
				y, lost := x.Lose(c), want.lost(c)
				same(t, y, lost)
				if m.Intn(2) == 0 {
					x, want = y, lost
				}
			default:
				s := m.step(sectors)
				if got, e := doStep(x, s), want.do(s); got != e {
					t.Fatalf("%v: %v: %d, want %d", want, s, got, e)
				}
			}
			same(t, x, want)
		}
	}
}

// eachChoice shows visit each choice of so many writes.
func eachChoice(n int, visit func(choice []bool)) {
	for bits := range 1 << n {
		c := make([]bool, n)
		for k := range c {
			c[k] = bits>>k&1 == 1
		}
		visit(c)
	}
}

// P12.2, of each choice of caches of up to nine writes: a sector is what it
// was flushed as, or one of the writes that lay in the cache, whole; with all
// chosen it is as it was read, with none as it was flushed.
func TestP12_2BehindAnyLoss(t *testing.T) {
	m := newMaker(122)
	for round := range 60 {
		x, flushed := laid(t, 4), make([]string, 4)
		var cache []step
		write := func(n int) {
			for range n {
				s := step{at: m.Intn(4), to: strings.Repeat(string(rune('a'+m.Intn(26))), 1+m.Intn(api.Sector))}
				writes(t, x, s.at, s.to, api.OK)
				cache = append(cache, s)
			}
		}
		write(round % 7)
		flushes(t, x, api.OK)
		for at := range flushed {
			flushed[at] = read(t, x, at)
		}
		cache = nil
		write(round % 10)
		if round%3 == 0 { // a flush that is refused keeps nothing
			powers(t, x, 0, api.OK)
			flushes(t, x, api.ErrDead)
		}
		eachChoice(len(cache), func(choice []bool) {
			y := x.Lose(choice)
			for at := range flushed {
				got, may := read(t, y, at), []string{flushed[at]}
				for _, s := range cache {
					if s.at == at {
						may = append(may, full(s.to))
					}
				}
				switch {
				case !slices.Contains(may, got):
					t.Fatalf("%v of %v: sector %d is %q", choice, cache, at, got)
				case !slices.Contains(choice, false) && got != read(t, x, at):
					t.Fatalf("all of %v: sector %d is %q, was read as %q", cache, at, got, read(t, x, at))
				case !slices.Contains(choice, true) && got != flushed[at]:
					t.Fatalf("none of %v: sector %d is %q, was flushed as %q", cache, at, got, flushed[at])
				}
			}
		})
	}
}

// Each one of a cache's writes may come through alone.
func TestP12_2EachWriteAlone(t *testing.T) {
	const most = 1000
	x := laid(t, 4)
	for k := range most {
		writes(t, x, k%4, fmt.Sprint(k), api.OK)
	}
	for k := range most {
		choice := make([]bool, most)
		choice[k] = true
		want := make([]string, 4)
		want[k%4] = fmt.Sprint(k)
		has(t, x.Lose(choice), want...)
	}
}
