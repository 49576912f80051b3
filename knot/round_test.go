package knot_test

import (
	"math"
	"regexp"
	"slices"
	"strconv"
	"strings"
	"testing"

	"stile/api"
	"stile/knot"
)

// step ties one thing, and takes it again: is it the same?
type step struct {
	tie  func(k *knot.Knot)
	same func(i *knot.In) bool
}

// steps are all things that are taken as they were tied.
func steps() []step {
	var l []step
	for n := range numbers {
		l = append(l, step{func(k *knot.Knot) { k.Number(n) }, func(i *knot.In) bool { return i.Number(n) == n }})
	}
	for s := range texts {
		l = append(l, step{func(k *knot.Knot) { k.Text(s) }, func(i *knot.In) bool { return i.Text(len(s)) == s }})
	}
	for _, yes := range []bool{true, false} {
		l = append(l, step{func(k *knot.Knot) { k.Mark(yes) }, func(i *knot.In) bool { return i.Mark() == yes }})
	}
	for x := range subjects {
		l = append(l, step{func(k *knot.Knot) { k.Subject(x) }, func(i *knot.In) bool { return i.Subject() == x }})
	}
	for x := range tuples {
		l = append(l, step{func(k *knot.Knot) { k.Tuple(x) }, func(i *knot.In) bool { return i.Tuple() == x }})
	}
	good := goodTuples()
	for _, list := range [][]api.Tuple{nil, {}, good[:1], good, slices.Repeat(good, 30)} {
		l = append(l, step{func(k *knot.Knot) { k.Tuples(list) }, func(i *knot.In) bool { return slices.Equal(i.Tuples(len(list)), list) }})
	}
	return l
}

func TestP4_2WhatWasTiedIsTakenAgain(t *testing.T) {
	l := steps()
	again := func(order []step) {
		k := knot.New()
		var left []int
		for _, s := range order {
			left = append(left, len(k.Bytes()))
			s.tie(k)
		}
		i := knot.Open(k.Bytes())
		for n, s := range order {
			if i.Left() != len(k.Bytes())-left[n] || !s.same(i) {
				t.Fatalf("thing %d of %.200q", n, k.Bytes())
			}
		}
		taken(t, string(k.Bytes()), i, 0, false)
	}
	again(nil)
	again(l)
	slices.Reverse(l)
	again(l)
	for _, a := range l {
		again([]step{a})
		for _, b := range l {
			again([]step{a, b, a})
		}
	}
}

// pieces make bytes that are things, and others that nearly are.
var pieces = []string{"0", "1", "2", "9", ";", ",", "+", "-", "a", "\xff"}

// joined goes through all bytes of up to five pieces.
func joined(visit func(s string)) {
	last := []string{""}
	visit("")
	for range 5 {
		var next []string
		for _, s := range last {
			for _, p := range pieces {
				visit(s + p)
				next = append(next, s+p)
			}
		}
		last = next
	}
}

var numberForm = regexp.MustCompile(`^(0|[1-9][0-9]{0,16});`)

// told: the number at the front of s, by the words, and what is behind it.
func told(s string, most int) (n int, rest string, ok bool) {
	front := numberForm.FindString(s)
	if front == "" {
		return 0, "", false
	}
	n, _ = strconv.Atoi(strings.TrimSuffix(front, ";"))
	if n > most {
		return 0, "", false
	}
	return n, s[len(front):], true
}

// toldText: the text at the front of s, likewise.
func toldText(s string, most int) (text, rest string, ok bool) {
	n, rest, ok := told(s, most)
	if !ok || len(rest) <= n || rest[n] != ',' {
		return "", "", false
	}
	return rest[:n], rest[n+1:], true
}

func TestP4_2JustWhatStandsThereIsTaken(t *testing.T) {
	joined(func(s string) {
		for _, most := range []int{-1, 0, 1, 2, 20, math.MaxInt} {
			i := knot.Open([]byte(s))
			n, rest, ok := told(s, most)
			if got := i.Number(most); got != n || i.Left() != len(rest) || (i.End() == api.OK) != (ok && rest == "") {
				t.Fatalf("Number(%d) of %q: %d, Left %d, End %d", most, s, got, i.Left(), i.End())
			}
			i = knot.Open([]byte(s))
			text, rest, ok := toldText(s, most)
			if got := i.Text(most); got != text || i.Left() != len(rest) || (i.End() == api.OK) != (ok && rest == "") {
				t.Fatalf("Text(%d) of %q: %q, Left %d, End %d", most, s, got, i.Left(), i.End())
			}
		}
	})
}

// tiedSo: were bytes that were taken whole tied just so, as the things that they were taken as?
func tiedSo(t *testing.T, bytes string) {
	t.Helper()
	i := knot.Open([]byte(bytes))
	if n := i.Number(1 << 53); i.End() == api.OK {
		want(t, "Number", tied(func(k *knot.Knot) { k.Number(n) }), bytes)
	}
	i = knot.Open([]byte(bytes))
	if s := i.Text(math.MaxInt); i.End() == api.OK {
		want(t, "Text", tied(func(k *knot.Knot) { k.Text(s) }), bytes)
	}
	i = knot.Open([]byte(bytes))
	if yes := i.Mark(); i.End() == api.OK {
		want(t, "Mark", tied(func(k *knot.Knot) { k.Mark(yes) }), bytes)
	}
	i = knot.Open([]byte(bytes))
	if x := i.Subject(); i.End() == api.OK {
		want(t, "Subject", tied(func(k *knot.Knot) { k.Subject(x) }), bytes)
	}
	i = knot.Open([]byte(bytes))
	if x := i.Tuple(); i.End() == api.OK {
		want(t, "Tuple", tied(func(k *knot.Knot) { k.Tuple(x) }), bytes)
	}
	i = knot.Open([]byte(bytes))
	if l := i.Tuples(math.MaxInt); i.End() == api.OK {
		want(t, "Tuples", tied(func(k *knot.Knot) { k.Tuples(l) }), bytes)
	}
}

func TestP4_2WhatIsTakenWasTiedJustSo(t *testing.T) {
	joined(func(s string) { tiedSo(t, s) })
	// One byte more, less or other makes bytes another thing's, or nothing's.
	near := func(bytes string) {
		for at := range len(bytes) + 1 {
			for _, p := range append(pieces, "", "*", "A", " ", "\u00e4") {
				tiedSo(t, bytes[:at]+p+bytes[at:])
				if at < len(bytes) {
					tiedSo(t, bytes[:at]+p+bytes[at+1:])
				}
			}
		}
	}
	for _, bytes := range numbers {
		near(bytes)
	}
	for s, bytes := range texts {
		if len(s) < 20 {
			near(bytes)
		}
	}
	for _, bytes := range subjects {
		near(bytes)
	}
	for x, bytes := range tuples {
		near(bytes)
		near(listed([]api.Tuple{x}))
		near(listed([]api.Tuple{x, x}))
	}
}
