package hedge_test

import (
	"fmt"
	"math/rand"
	"slices"
	"strings"
	"testing"

	"stile/api"
	"stile/hedge"
)

// A model has its entries in a map, and looks at all of them whenever it is
// asked.
type model map[string]int

func (m model) rank(key string) int {
	n := 0
	for k := range m {
		if k < key {
			n++
		}
	}
	return n
}

func (m model) first(n int, belongs func(key string) bool) []entry {
	var l []entry
	for key, at := range m {
		if belongs(key) {
			l = append(l, entry{key, at})
		}
	}
	slices.SortFunc(l, func(a, b entry) int { return strings.Compare(a.Key, b.Key) })
	return l[:max(0, min(n, len(l)))]
}

// told is all that a hedge tells of a key.
func told(h *hedge.Hedge, key string, n int) string {
	at, e := h.Get(key)
	return fmt.Sprintf("%d %d %d %d %s %s", h.Len(), at, e, h.Rank(key), shown(h.From(key, n)), shown(h.Under(key, n)))
}

func (m model) told(key string, n int) string {
	at, ok := m[key]
	e := api.OK
	if !ok {
		e = api.ErrNone
	}
	from := m.first(n, func(k string) bool { return k >= key })
	under := m.first(n, func(k string) bool { return strings.HasPrefix(k, key) })
	return fmt.Sprintf("%d %d %d %d %s %s", len(m), at, e, m.rank(key), shown(from), shown(under))
}

// A maker makes things by numbers that are the same each time.
type maker struct{ *rand.Rand }

func newMaker(seed int64) maker { return maker{rand.New(rand.NewSource(seed))} }

// key is one of few bytes, so that keys come again and begin others.
func (m maker) key(most int) string {
	var b []byte
	for range m.Intn(most + 1) {
		b = append(b, "\x00ab\xff"[m.Intn(4)])
	}
	return string(b)
}

func TestP15_1AgainstAModel(t *testing.T) {
	m := newMaker(151)
	for round := range 150 {
		h, want, most := hedge.New(), model{}, 1+round%6
		for range 300 {
			key := m.key(most)
			_, there := want[key]
			// In some rounds more is put, in others more is dropped.
			if m.Intn(5) < 1+round%4 {
				at := m.Intn(2000) - 1000
				want[key] = at
				puts(t, h, key, at, !there)
			} else {
				fault := api.OK
				if !there {
					fault = api.ErrNone
				}
				delete(want, key)
				drops(t, h, key, fault)
			}
			key, n := m.key(most+1), m.Intn(20)-2
			if got := told(h, key, n); got != want.told(key, n) {
				t.Fatalf("%q, %d of %v: %s, want %s", key, n, want, got, want.told(key, n))
			}
		}
	}
}
