package hoard_test

import (
	"fmt"
	"math/rand"
	"slices"
	"testing"

	"stile/api"
	"stile/hoard"
	"stile/tray"
)

// A history is a hoard on its tray, what must be opened of it, and what was
// being done when the power went.
type history struct {
	x     *tray.Tray
	h     *hoard.Hoard
	image string
	kept  []string // the records since the image
	doing byte     // what was being done: 0, if nothing was
	b     string   // with what
	given int      // steps that were done of it
}

func begin(t *testing.T, image string) history {
	t.Helper()
	x := laid(t, 64)
	return history{x: x, h: lays(t, x, image), image: image}
}

// needs is how many steps a thing needs.
func needs(do byte, b string) int {
	switch do {
	case 'k':
		return recordTakes(b) + 1
	case 'i':
		return imageTakes(b) + 3
	}
	return 2
}

// done: it is done, and answered without an error.
func (g *history) done(do byte, b string) {
	switch do {
	case 'k':
		g.kept = append(slices.Clone(g.kept), b)
	case 'i':
		g.image, g.kept = b, nil
	}
}

// do keeps a record, or an image, or opens, with so much power.
func (g *history) do(t *testing.T, do byte, b string, given int) {
	t.Helper()
	power(t, g.x, given)
	want := api.OK
	if given < needs(do, b) {
		want = api.ErrDead
		g.doing, g.b, g.given = do, b, given
	} else {
		g.done(do, b)
	}
	switch {
	case do == 'k':
		keeps(t, g.h, b, want)
	case do == 'i':
		images(t, g.h, b, want)
	case want == api.OK:
		g.h = opens(t, g.x, g.image, g.kept...)
	default:
		opensNot(t, g.x, want)
	}
	cached := given
	if do == 'i' && given > imageTakes(b) { // the image was flushed
		cached = given - imageTakes(b) - 1
	}
	if want == api.OK {
		cached = 0
	}
	if g.x.Cached() != cached {
		t.Fatalf("%c with %d steps: Cached %d, want %d", do, given, g.x.Cached(), cached)
	}
}

// lose loses the power and opens the hoard again: it has what was answered
// without an error, and what was being done just if all of it came through.
func (g *history) lose(t *testing.T, choice []bool) {
	t.Helper()
	through := !slices.Contains(choice, false) && g.given == needs(g.doing, g.b)-1
	if g.doing != 0 && through {
		g.done(g.doing, g.b)
	}
	g.x = g.x.Lose(choice)
	g.h = opens(t, g.x, g.image, g.kept...)
	g.doing, g.b, g.given = 0, "", 0
}

// eachChoice shows visit each choice of so many writes.
func eachChoice(n int, visit func(choice []bool)) {
	for bits := range 1 << n {
		c := make([]bool, n)
		for k := range c {
			c[k] = bits>>k&1 == 1
		}
		visit(c)
	}
}

// again is the same history on a tray of its own, opened once more.
func (g history) again(t *testing.T) history {
	t.Helper()
	g.x = g.x.Lose(nil) // nothing lies in its cache
	g.h = opens(t, g.x, g.image, g.kept...)
	return g
}

// eachStep shows visit what comes of a history by one thing more, of each kind
// and of some lengths, with each power, and each choice of what is kept.
func eachStep(t *testing.T, g history, seed int, visit func(g history)) {
	t.Helper()
	for _, c := range []struct {
		do    byte
		bytes int
	}{{'k', 10}, {'k', 200}, {'i', 0}, {'i', 200}, {'o', 0}} {
		b := text(c.bytes, seed)
		for given := range needs(c.do, b) + 1 {
			h := g.again(t)
			h.do(t, c.do, b, given)
			if h.doing == 0 {
				visit(h) // without a loss
			}
			eachChoice(h.x.Cached(), func(choice []bool) {
				lost := h
				lost.lose(t, choice)
				visit(lost)
			})
		}
	}
}

// P14.2: three things, one behind the other, each step at which the power
// goes, each choice of what is kept.
func TestP14_2EachStepAndEachChoice(t *testing.T) {
	ends := 0
	eachStep(t, begin(t, "first"), 1, func(g history) {
		eachStep(t, g, 2, func(g history) {
			eachStep(t, g, 3, func(g history) { ends++ })
		})
	})
	if ends < 50_000 {
		t.Errorf("only %d histories", ends)
	}
}

// A Lay whose power goes leaves nothing, or just its image.
func TestP14_2Lay(t *testing.T) {
	for _, n := range []int{0, 1, 128, 129, 500} {
		b := text(n, 1)
		for given := range imageTakes(b) + 3 {
			x := laid(t, 64)
			power(t, x, given)
			laysNot(t, x, b, api.ErrDead)
			eachChoice(x.Cached(), func(choice []bool) {
				y := x.Lose(choice)
				if given == imageTakes(b)+2 && choice[0] {
					laysNot(t, y, "new", api.ErrTwice)
					opens(t, y, b)
					return
				}
				opensNot(t, y, api.ErrNone)
				keeps(t, lays(t, y, "new"), "record", api.OK)
				opens(t, y.Lose(nil), "new", "record")
			})
		}
	}
}

// Images of a whole field, whose power goes at any step: the other field
// stays as it is.
func TestP14_2WholeFields(t *testing.T) {
	m, whole := rand.New(rand.NewSource(142)), 1920
	g := begin(t, text(whole, 1))
	for given := range 19 {
		for k := range 20 {
			h := g.again(t)
			h.do(t, 'k', "record", 9)
			h.do(t, 'i', text(whole-k%3, given), given)
			var choice []bool
			for range h.x.Cached() {
				choice = append(choice, m.Intn(3) > 0)
			}
			h.lose(t, choice)
			h.do(t, 'k', "behind", 9)
			h.lose(t, nil)
		}
	}
}

// Long histories: rings that go round, records and images of all lengths, and
// the power that goes at any step.
func TestP14_2LongHistories(t *testing.T) {
	m := rand.New(rand.NewSource(143))
	through, lost := 0, 0
	for range 60 {
		g := begin(t, text(m.Intn(1921), 1))
		for k := range 150 {
			do := "kkkkio"[m.Intn(6)]
			b := text(m.Intn(1+m.Intn(1920)), k)
			if do == 'k' && recordTakes(b) > g.h.Room() {
				keeps(t, g.h, b, api.ErrFull)
				do = 'i'
			}
			if do == 'o' {
				b = ""
			}
			g.do(t, do, b, m.Intn(3*needs(do, b)))
			if g.doing != 0 || m.Intn(4) == 0 {
				had := fmt.Sprint(g.image, g.kept)
				var choice []bool
				for range g.x.Cached() {
					choice = append(choice, m.Intn(9) > 0)
				}
				g.lose(t, choice)
				if fmt.Sprint(g.image, g.kept) != had {
					through++
				} else {
					lost++
				}
			}
		}
	}
	if through < 100 || lost < 500 {
		t.Errorf("only %d that came through, and %d that were lost", through, lost)
	}
}

// When the power is back on the same tray, what lies in its cache may yet be
// lost: a hoard that is opened with an error, once or more often, has what was
// kept with OK, and perhaps what was being kept; once it is opened with OK, it
// has just that.
func TestP14_2OpenedWithoutALoss(t *testing.T) {
	m := rand.New(rand.NewSource(144))
	both := map[string]int{}
	for range 3000 {
		g := begin(t, "first")
		for k := range 6 {
			do := "ki"[m.Intn(2)]
			b := text(m.Intn(300), k)
			g.do(t, do, b, m.Intn(needs(do, b)+1))
			may := g
			if g.doing != 0 {
				may.done(g.doing, g.b)
			}
			for range m.Intn(4) {
				power(t, g.x, m.Intn(2))
				opensNot(t, g.x, api.ErrDead)
			}
			x := g.x
			if m.Intn(3) > 0 {
				var choice []bool
				for range x.Cached() {
					choice = append(choice, m.Intn(2) > 0)
				}
				x = x.Lose(choice)
			}
			power(t, x, steps)
			came := opensEither(t, x, g, may)
			both[fmt.Sprintf("%c %v", do, came.same(may))]++
			g = came
		}
	}
	if both["k true"] < 1000 || both["k false"] < 1000 || both["i true"] < 1000 || both["i false"] < 1000 {
		t.Errorf("too few of a kind: %v", both)
	}
}

func (g history) same(h history) bool {
	return g.image == h.image && slices.Equal(g.kept, h.kept)
}

// opensEither opens a hoard that has what one of two histories has, and that
// has it still when it is opened behind a loss.
func opensEither(t *testing.T, x *tray.Tray, g, h history) history {
	t.Helper()
	z, b, l, e := hoard.Open(x)
	if e != api.OK {
		t.Fatalf("Open: %d", e)
	}
	came := history{x: x, h: z, image: string(b), kept: texts(l)}
	if !came.same(g) && !came.same(h) {
		t.Fatalf("Open: %q, %q, want %q, %q or %q, %q", brief(came.image), briefs(came.kept), brief(g.image), briefs(g.kept), brief(h.image), briefs(h.kept))
	}
	opens(t, x.Lose(nil), came.image, came.kept...)
	return came
}
