package hedge_test

import (
	"fmt"
	"math"
	"runtime"
	"slices"
	"strings"
	"testing"
	"unsafe"

	"stile/api"
	"stile/hedge"
)

// orders shows visit the numbers below n in each order.
func orders(n int, visit func(order []int)) {
	l := make([]int, n)
	for k := range l {
		l[k] = k
	}
	var swap func(at int)
	swap = func(at int) {
		if at == n {
			visit(l)
		}
		for k := at; k < n; k++ {
			l[at], l[k] = l[k], l[at]
			swap(at + 1)
			l[at], l[k] = l[k], l[at]
		}
	}
	swap(0)
}

// everything is what a hedge tells of these keys.
func everything(h *hedge.Hedge, of []string) string {
	s := ""
	for _, key := range of {
		for _, n := range []int{0, 1, 2, 3, math.MaxInt} {
			s += told(h, key, n) + "\n"
		}
	}
	return s
}

func TestP15_2PutInEachOrder(t *testing.T) {
	all := []entry{{"", 5}, {"a", -1}, {"aa", 5}, {"ab", 0}, {"b", 7}, {"\xff", 1}}
	probes := append(keys(all), "\x00", "a\x00", "abc", "c", "\xff\xff")
	for n := range len(all) + 1 {
		want := everything(holding(all[:n]...), probes)
		orders(n, func(order []int) {
			h := hedge.New()
			for _, k := range order {
				puts(t, h, all[k].Key, all[k].At, true)
			}
			if got := everything(h, probes); got != want {
				t.Fatalf("put in the order %v: %s, want %s", order, got, want)
			}
		})
	}
}

func TestP15_2DroppedInEachOrder(t *testing.T) {
	all := []entry{{"a", 1}, {"ab", 2}, {"b", 3}, {"ba", 4}, {"c", 5}, {"d", 6}}
	probes := append(keys(all), "", "aa", "e")
	wanted := map[int]string{} // by a sum of 1<<k, of each place k that is left
	for left := range 1 << len(all) {
		h := hedge.New()
		for k, e := range all {
			if left>>k&1 == 1 {
				h.Put(e.Key, e.At)
			}
		}
		wanted[left] = everything(h, probes)
	}
	orders(len(all), func(order []int) {
		h, left := holding(all...), 1<<len(all)-1
		for _, k := range order {
			drops(t, h, all[k].Key, api.OK)
			left -= 1 << k
			if got := everything(h, probes); got != wanted[left] {
				t.Fatalf("dropped in the order %v: %s, want %s", order, got, wanted[left])
			}
		}
	})
}

// Of two hedges one has its entries put straight, the other one by a winding
// way, on which other keys come and go, and numbers change.
func TestP15_2ByAWindingWay(t *testing.T) {
	m := newMaker(152)
	for range 60 {
		want := model{}
		for range m.Intn(200) {
			want[m.key(5)] = m.Intn(9)
		}
		entries := want.first(math.MaxInt, func(string) bool { return true })
		straight, winding := holding(entries...), hedge.New()
		for range 400 {
			winding.Put(m.key(6), m.Intn(9))
			winding.Drop(m.key(5))
		}
		m.Shuffle(len(entries), func(a, b int) { entries[a], entries[b] = entries[b], entries[a] })
		for _, e := range entries {
			winding.Put(e.Key, e.At-1)
		}
		for _, e := range winding.From("", math.MaxInt) {
			if _, ok := want[e.Key]; !ok {
				drops(t, winding, e.Key, api.OK)
			}
		}
		for _, e := range entries {
			puts(t, winding, e.Key, e.At, false)
		}
		for range 100 {
			key, n := m.key(6), m.Intn(30)
			if a, b := told(straight, key, n), told(winding, key, n); a != b {
				t.Fatalf("%q, %d: %s, and by a winding way %s", key, n, a, b)
			}
		}
	}
}

// R4 and R8: asking changes nothing, nor does a Drop of what isn't there, nor
// what is done to another hedge.
func TestP15_2StaysAsItIs(t *testing.T) {
	h, other := keyed(rising...), keyed("a", "b")
	want := everything(h, rising)
	for range 3 {
		for _, key := range []string{"nothing", "a\x01", "\xff\xff\xff"} {
			drops(t, h, key, api.ErrNone)
			other.Put(key, 1)
			other.Drop("a")
		}
		if got := everything(h, rising); got != want {
			t.Fatalf("it tells %s, want %s", got, want)
		}
	}
}

// A memory is a piece of it.
type memory struct{ at, size uintptr }

func ofText(s string) memory {
	return memory{uintptr(unsafe.Pointer(unsafe.StringData(s))), uintptr(len(s))}
}

// ofList is a list's, with its spare room, and its texts'.
func ofList(l []entry) []memory {
	all := []memory{{uintptr(unsafe.Pointer(unsafe.SliceData(l))), uintptr(cap(l)) * unsafe.Sizeof(entry{})}}
	for _, e := range l[:cap(l)] {
		all = append(all, ofText(e.Key))
	}
	return all
}

func overlap(a, b memory) bool {
	return a.size > 0 && b.size > 0 && a.at < b.at+b.size && b.at < a.at+a.size
}

func TestP15_3AnswersAreNewMemory(t *testing.T) {
	var texts []string // these stay, and so do answers: nothing comes to stand where one stood
	var given []memory
	apart := func(s string) string {
		texts = append(texts, strings.Clone(s))
		given = append(given, ofText(texts[len(texts)-1]))
		return texts[len(texts)-1]
	}
	h := hedge.New()
	for _, s := range []string{"doc", "doc:a", "doc:b", "group"} {
		h.Put(apart(s), 1)
	}
	from, prefix := apart("doc"), apart("do")
	pieces := [][]memory{given}
	var stay [][]entry
	for n := range 6 {
		for _, l := range [][]entry{h.From(from, n), h.Under(prefix, n), h.Under(from, n), h.From("", n)} {
			stay = append(stay, l)
			pieces = append(pieces, ofList(l))
		}
	}
	for i, a := range pieces {
		for k, b := range pieces[:i] {
			for _, x := range a {
				for _, y := range b {
					if overlap(x, y) {
						t.Errorf("answers %d and %d (0: what was handed in) share memory", i, k)
					}
				}
			}
		}
	}
	runtime.KeepAlive(texts)
	runtime.KeepAlive(stay)
}

// Who has an answer may change it, and fill its spare room.
func TestP15_3AnswersMayBeChanged(t *testing.T) {
	h := keyed(rising...)
	want := everything(h, rising)
	for _, key := range rising {
		for n := range 40 {
			for _, l := range [][]entry{h.From(key, n), h.Under(key, n)} {
				other := h.From(key, n)
				before := slices.Clone(other)
				for k := range l[:cap(l)] {
					l[:cap(l)][k] = entry{"changed", 99}
				}
				if !slices.Equal(other, before) {
					t.Fatalf("From(%q, %d) changes with another answer", key, n)
				}
			}
		}
	}
	if got := everything(h, rising); got != want {
		t.Fatalf("it tells %s, want %s", got, want)
	}
	// Nor does an answer change with the hedge.
	l := h.From("", math.MaxInt)
	before := slices.Clone(l)
	for _, key := range rising {
		h.Put(key, 99)
		h.Drop(key)
		h.Put("!"+key, 1)
	}
	if !slices.Equal(l, before) {
		t.Errorf("an answer changes with its hedge: %s, want %s", shown(l), shown(before))
	}
}

// R6: the bytes of a text that was handed in are another's afterwards.
func TestP10KeysThatAreHandedInArentKept(t *testing.T) {
	h, want := hedge.New(), keyed("m", "a", "z", "mm", "a")
	var raws [][]byte
	lent := func(s string) string {
		raw := []byte(s)
		raws = append(raws, raw)
		return unsafe.String(&raw[0], len(raw))
	}
	for k, s := range []string{"m", "a", "z", "mm", "a"} {
		h.Put(lent(s), k)
	}
	l := h.From(lent("m"), 2)
	h.Get(lent("m"))
	h.Under(lent("m"), 9)
	h.Drop(lent("x"))
	for _, raw := range raws {
		if s := string(raw); s != "m" && s != "a" && s != "z" && s != "mm" && s != "x" {
			t.Errorf("what was handed in is changed: %q", s)
		}
		for k := range raw {
			raw[k] = '!'
		}
	}
	probes := []string{"", "!", "!!", "a", "m", "mm", "x", "z"}
	if a, b := everything(h, probes), everything(want, probes); a != b {
		t.Errorf("it tells %s, want %s", a, b)
	}
	if fmt.Sprint(l) != "[{m 0} {mm 3}]" {
		t.Errorf("an answer changes with what was handed in: %v", l)
	}
}
