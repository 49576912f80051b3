package hedge_test

import (
	"fmt"
	"math"
	"slices"
	"strings"
	"testing"

	"stile/api"
	"stile/hedge"
)

type entry = hedge.Entry

// holding is a hedge of these entries.
func holding(l ...entry) *hedge.Hedge {
	h := hedge.New()
	for _, e := range l {
		h.Put(e.Key, e.At)
	}
	return h
}

// keyed is a hedge of keys, each with its place as its number.
func keyed(keys ...string) *hedge.Hedge {
	h := hedge.New()
	for k, key := range keys {
		h.Put(key, k)
	}
	return h
}

func keys(l []entry) []string {
	var all []string
	for _, e := range l {
		all = append(all, e.Key)
	}
	return all
}

// shown is a list as a text, its keys quoted.
func shown(l []entry) string {
	s := ""
	for _, e := range l {
		s += fmt.Sprintf("%q %d, ", e.Key, e.At)
	}
	return "[" + s + "]"
}

func puts(t *testing.T, h *hedge.Hedge, key string, at int, want bool) {
	t.Helper()
	if got := h.Put(key, at); got != want {
		t.Errorf("Put(%q, %d): %v, want %v", key, at, got, want)
	}
}

func gets(t *testing.T, h *hedge.Hedge, key string, want int, fault api.Errno) {
	t.Helper()
	if n, e := h.Get(key); n != want || e != fault {
		t.Errorf("Get(%q): %d, %d, want %d, %d", key, n, e, want, fault)
	}
}

func drops(t *testing.T, h *hedge.Hedge, key string, want api.Errno) {
	t.Helper()
	if e := h.Drop(key); e != want {
		t.Errorf("Drop(%q): %d, want %d", key, e, want)
	}
}

func ranks(t *testing.T, h *hedge.Hedge, key string, want int) {
	t.Helper()
	if n := h.Rank(key); n != want {
		t.Errorf("Rank(%q): %d, want %d", key, n, want)
	}
}

func lists(t *testing.T, name string, got []entry, want ...entry) {
	t.Helper()
	if !slices.Equal(got, want) {
		t.Errorf("%s: %s, want %s", name, shown(got), shown(want))
	}
}

func TestP15_1Example(t *testing.T) {
	h := keyed("a", "ab", "b")
	lists(t, "Under a", h.Under("a", 9), entry{"a", 0}, entry{"ab", 1})
	ranks(t, h, "b", 2)
}

func TestP15_1WithoutKeys(t *testing.T) {
	emptied := keyed("a", "", "b")
	for _, key := range []string{"", "a", "b"} {
		drops(t, emptied, key, api.OK)
	}
	for _, h := range []*hedge.Hedge{hedge.New(), emptied} {
		if h.Len() != 0 {
			t.Errorf("Len: %d", h.Len())
		}
		for _, key := range []string{"", "a", "\x00", "\xff"} {
			gets(t, h, key, 0, api.ErrNone)
			drops(t, h, key, api.ErrNone)
			ranks(t, h, key, 0)
			for _, n := range []int{math.MinInt, -1, 0, 1, 9, math.MaxInt} {
				lists(t, "From", h.From(key, n))
				lists(t, "Under", h.Under(key, n))
			}
		}
		puts(t, h, "a", 7, true)
		lists(t, "From", h.From("", 9), entry{"a", 7})
	}
}

func TestP15_1PutGetDropLen(t *testing.T) {
	h := hedge.New()
	puts(t, h, "b", 1, true)
	puts(t, h, "", 2, true)
	puts(t, h, "b\x00", 3, true)
	gets(t, h, "b", 1, api.OK)
	gets(t, h, "", 2, api.OK)
	gets(t, h, "b\x00", 3, api.OK)
	for _, key := range []string{"a", "B", "bb", "b\x00\x00", "\x00", "b "} {
		gets(t, h, key, 0, api.ErrNone)
		drops(t, h, key, api.ErrNone)
	}
	if h.Len() != 3 {
		t.Errorf("Len: %d, want 3", h.Len())
	}
	// Another number of a key that is there.
	for _, at := range []int{0, -1, math.MinInt, math.MaxInt, 1, 1} {
		puts(t, h, "b", at, false)
		gets(t, h, "b", at, api.OK)
		if h.Len() != 3 {
			t.Errorf("Len: %d, want 3", h.Len())
		}
	}
	gets(t, h, "", 2, api.OK)
	// Gone, and there again, with another number.
	for _, key := range []string{"b", "", "b\x00"} {
		drops(t, h, key, api.OK)
		drops(t, h, key, api.ErrNone)
		gets(t, h, key, 0, api.ErrNone)
		if h.Len() != 2 {
			t.Errorf("Len: %d, want 2", h.Len())
		}
		puts(t, h, key, 9, true)
		gets(t, h, key, 9, api.OK)
		puts(t, h, key, 8, false)
	}
	lists(t, "From", h.From("", 9), entry{"", 8}, entry{"b", 8}, entry{"b\x00", 8})
}

// The order is that of bytes, whatever runes these make, if any.
var rising = []string{"", "\x00", "\x00\x00", "\x00a", " ", "A", "Z", "a", "a\x00", "a\x00b", "a ", "aa", "aa\xff", "ab", "a\x7f", "a\u00e4", "a\uffff", "a\U00010000", "a\xff", "a\xff\x00", "a\xff\xff", "b", "z", "\x80", "\u00e4", "\ufffd", "\U0001f600", "\xff", "\xff\x00", "\xff\xfe", "\xff\xff", "\xff\xffa"}

func TestP15_1Order(t *testing.T) {
	all := make([]entry, len(rising))
	for k := range rising {
		at := (k*13 + 5) % len(rising) // each once, in no order
		all[at] = entry{rising[at], at}
	}
	h := hedge.New()
	for k := range all {
		e := all[(k*13+5)%len(all)]
		puts(t, h, e.Key, e.At, true)
	}
	for k, e := range all {
		ranks(t, h, e.Key, k)
		gets(t, h, e.Key, k, api.OK)
		for n := range len(all) - k + 3 {
			lists(t, fmt.Sprintf("From %q", e.Key), h.From(e.Key, n), all[k:min(k+n, len(all))]...)
		}
	}
}

func TestP15_1From(t *testing.T) {
	a, ab, b := entry{"a", 3}, entry{"ab", 1}, entry{"b", 2}
	h := holding(b, ab, a)
	for _, n := range []int{3, 4, 99, 1 << 31, math.MaxInt} {
		lists(t, "From", h.From("", n), a, ab, b)
		lists(t, "From a", h.From("a", n), a, ab, b)
		lists(t, "From a\\x00", h.From("a\x00", n), ab, b)
		lists(t, "From aa", h.From("aa", n), ab, b)
		lists(t, "From ab", h.From("ab", n), ab, b)
		lists(t, "From abc", h.From("abc", n), b)
		lists(t, "From b", h.From("b", n), b)
		lists(t, "From b\\x00", h.From("b\x00", n))
		lists(t, "From \\xff", h.From("\xff", n))
	}
	lists(t, "From, 1", h.From("", 1), a)
	lists(t, "From, 2", h.From("", 2), a, ab)
	lists(t, "From aa, 1", h.From("aa", 1), ab)
	for _, n := range []int{0, -1, math.MinInt} {
		for _, key := range []string{"", "a", "aa", "b", "c"} {
			lists(t, "From, none", h.From(key, n))
		}
	}
}

func TestP15_1Under(t *testing.T) {
	h := keyed(rising...)
	for _, prefix := range append([]string{"aa\xff\x00", "a\x00b", "c", "aaa", "a\u00e4b", "\xc3", "\xf0\x9f", "\xff\xff\xff", "zz"}, rising...) {
		var want []entry
		for k, key := range rising {
			if strings.HasPrefix(key, prefix) {
				want = append(want, entry{key, k})
			}
		}
		for n := range len(want) + 3 {
			lists(t, fmt.Sprintf("Under %q", prefix), h.Under(prefix, n), want[:min(n, len(want))]...)
		}
		lists(t, fmt.Sprintf("Under %q", prefix), h.Under(prefix, math.MaxInt), want...)
		lists(t, "Under, none", h.Under(prefix, -1))
		lists(t, "Under, none", h.Under(prefix, math.MinInt))
	}
	// What stands where the prefix would, or ahead of it, is no such key.
	h = keyed("a", "ac", "b")
	lists(t, "Under ab", h.Under("ab", 9))
	lists(t, "Under abc", h.Under("abc", 9))
	lists(t, "Under ac", h.Under("ac", 9), entry{"ac", 1})
	lists(t, "Under acc", h.Under("acc", 9))
}

func TestP15_1Rank(t *testing.T) {
	h := keyed("a", "ab", "b", "\xff")
	for key, want := range map[string]int{"": 0, "\x00": 0, "A": 0, "a": 0, "a\x00": 1, "aa": 1, "ab": 1, "ab\x00": 2, "abc": 2, "b": 2, "b\x00": 3, "c": 3, "\u00e4": 3, "\xff": 3, "\xff\x00": 4, "\xff\xff": 4} {
		ranks(t, h, key, want)
	}
	puts(t, h, "", 0, true)
	ranks(t, h, "", 0)
	ranks(t, h, "\x00", 1)
	ranks(t, h, "b", 3)
	puts(t, h, "ab", 9, false)
	ranks(t, h, "b", 3)
	drops(t, h, "ab", api.OK)
	ranks(t, h, "b", 2)
	ranks(t, h, "ab", 2)
}

func TestP15_1LongKeys(t *testing.T) {
	long := strings.Repeat("a", 1<<20)
	h := keyed(long+"b", long, long+"a", "a")
	lists(t, "Under", h.Under(long, 2), entry{long, 1}, entry{long + "a", 2})
	if got := keys(h.From("", 9)); !slices.Equal(got, []string{"a", long, long + "a", long + "b"}) {
		t.Error("From: long keys stand in another order")
	}
	ranks(t, h, long+"b", 3)
	drops(t, h, long, api.OK)
	gets(t, h, long, 0, api.ErrNone)
	gets(t, h, long+"a", 2, api.OK)
}

// Keys that come in one order, and go in it, from either end.
func TestP15_1ManyKeys(t *testing.T) {
	const many = 200000
	name := func(k int) string { return fmt.Sprintf("%06d", k) }
	for _, place := range []func(k int) int{
		func(k int) int { return k },
		func(k int) int { return many - 1 - k },
		func(k int) int { return k * 77777 % many },
	} {
		h := hedge.New()
		for k := range many {
			puts(t, h, name(place(k)), place(k), true)
		}
		if l := h.From("", math.MaxInt); len(l) != many || h.Len() != many {
			t.Fatalf("From: %d, Len: %d", len(l), h.Len())
		}
		for k := 0; k < many; k += 97 {
			ranks(t, h, name(k), k)
			gets(t, h, name(k), k, api.OK)
			lists(t, "From", h.From(name(k), 1), entry{name(k), k})
		}
		for k := range many - 1 {
			drops(t, h, name(place(k)), api.OK)
		}
		last := place(many - 1)
		lists(t, "From", h.From("", 9), entry{name(last), last})
	}
}
