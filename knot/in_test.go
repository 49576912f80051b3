package knot_test

import (
	"math"
	"slices"
	"strconv"
	"strings"
	"testing"

	"stile/api"
	"stile/knot"
)

// behind is what stands behind a thing that is taken: enough for any other.
const behind = "5;+2;ab,1;a,1;b,1;c,1;d,1;e,0;,"

// taken holds what an untying is like behind a thing against what it is to be:
// with so many bytes left, or failed (fault).
func taken(t *testing.T, what string, i *knot.In, left int, fault bool) {
	t.Helper()
	end := api.OK
	if left > 0 || fault {
		end = api.ErrForm
	}
	if i.Left() != left || i.End() != end {
		t.Errorf("%.80s: Left %d, End %d, want %d, %d", what, i.Left(), i.End(), left, end)
	}
}

// took checks one thing, taken of bytes alone and with others behind them: it
// answers what it is to, and leaves what is behind, or fails.
func took[T any](t *testing.T, bytes string, take func(i *knot.In) T, same func(got T) bool, fault bool) {
	t.Helper()
	for _, more := range []string{"", behind} {
		i := knot.Open([]byte(bytes + more))
		what := strconv.Quote(bytes + more)
		if got := take(i); !same(got) {
			t.Errorf("%.80s: %.200q", what, any(got))
		}
		left := len(more)
		if fault {
			left = 0
		}
		taken(t, what, i, left, fault)
	}
}

// failsAlone checks that bytes alone, cut short, fail.
func failsAlone[T comparable](t *testing.T, bytes string, take func(i *knot.In) T) {
	t.Helper()
	var zero T
	i := knot.Open([]byte(bytes))
	if got := take(i); got != zero {
		t.Errorf("%.80q: %q", bytes, any(got))
	}
	taken(t, bytes, i, 0, true)
}

func is[T comparable](want T) func(T) bool {
	return func(got T) bool { return got == want }
}

// number is one that is to be taken; failsNumber one that isn't.
func number(t *testing.T, bytes string, most, want int) {
	t.Helper()
	took(t, bytes, func(i *knot.In) int { return i.Number(most) }, is(want), false)
}

func failsNumber(t *testing.T, bytes string, most int) {
	t.Helper()
	took(t, bytes, func(i *knot.In) int { return i.Number(most) }, is(0), true)
}

func TestP4_1NumberIsTaken(t *testing.T) {
	for n, bytes := range numbers {
		for _, most := range []int{n, n + 1, 1 << 60, math.MaxInt} {
			number(t, bytes, most, n)
		}
		for _, most := range []int{n - 1, -1, math.MinInt} {
			failsNumber(t, bytes, most)
		}
	}
	for n := range 3000 {
		number(t, strconv.Itoa(n)+";", n, n)
		failsNumber(t, strconv.Itoa(n)+";", n-1)
	}
}

// Above 2^53 a number is taken, of up to 17 digits, if most allows it.
func TestP4_1NumberAbove2To53(t *testing.T) {
	for _, n := range []int{1<<53 + 1, 1<<53 + 2, 1 << 54, 9999999999999999, 10000000000000000, 99999999999999998, 99999999999999999} {
		bytes := strconv.Itoa(n) + ";"
		number(t, bytes, n, n)
		number(t, bytes, math.MaxInt, n)
		failsNumber(t, bytes, n-1)
		failsNumber(t, bytes, 1<<53)
		failsNumber(t, bytes, -1)
	}
	for _, digits := range []string{"100000000000000000", "999999999999999999", "9223372036854775807", "9223372036854775808", "18446744073709551617", "99999999999999999999", "100000000000000000000000000000000000000001", strings.Repeat("1", 1000), strings.Repeat("9", 1<<20)} {
		failsNumber(t, digits+";", math.MaxInt)
		failsNumber(t, digits+";", 10)
	}
	number(t, "12345678901234567;", math.MaxInt, 12345678901234567)
	failsNumber(t, "123456789012345678;", math.MaxInt)
}

// notNumbers begin with none, whatever is the most, and whatever is behind.
var notNumbers = []string{
	";", "a;", "-1;", "+1;", "-0;", "+0;", " 1;", "1 ;", "1\n;", "\t1;", "1_0;", "1.0;", "1e1;", "0x1;", "0b1;", "0o7;", "0a;", "a1;", "1a;", ",", "1,", "1,;", "1-;", "-;", "+;", "1:", "/;", ":;", "1/;", "1:;",
	"00;", "01;", "012;", "000;", "00000000000000000;", "000000000000000001;", "010;",
	"\u0661;", "1\u0661;", "\uff11;", "\u00b9;", "1\u00b2;", "\u00bd;", "\xff;", "1\xff;", "\xff1;", "1\xc3;", "\x001;", "1\x00;", "1\uff1b", "1\u037e", "1\xc0\xbb", // what looks like digits and a ;
	"(1);", `"1";`, "one;",
}

func TestP4_1WhatIsNoNumber(t *testing.T) {
	for _, s := range notNumbers {
		for _, most := range []int{0, 1, 10, 1 << 53, math.MaxInt, -1} {
			failsNumber(t, s, most)
		}
	}
	// Without its end, cut short at any place.
	for _, s := range []string{"", "0", "1", "12", "00", "9007199254740992", "99999999999999999", strings.Repeat("9", 100)} {
		i := knot.Open([]byte(s))
		if n := i.Number(math.MaxInt); n != 0 {
			t.Errorf("Number of %q: %d", s, n)
		}
		taken(t, s, i, 0, true)
	}
}

func text(t *testing.T, bytes string, most int, want string) {
	t.Helper()
	took(t, bytes, func(i *knot.In) string { return i.Text(most) }, is(want), false)
}

func failsText(t *testing.T, bytes string, most int) {
	t.Helper()
	took(t, bytes, func(i *knot.In) string { return i.Text(most) }, is(""), true)
}

func TestP4_1TextIsTaken(t *testing.T) {
	all := map[string]string{longer: "70000;" + longer + ","}
	for s, bytes := range texts {
		all[s] = bytes
	}
	for s, bytes := range all {
		for _, most := range []int{len(s), len(s) + 1, 1 << 53, math.MaxInt} {
			text(t, bytes, most, s)
		}
		for _, most := range []int{len(s) - 1, -1, math.MinInt} {
			failsText(t, bytes, most)
		}
	}
}

func TestP4_1WhatIsNoText(t *testing.T) {
	// Whatever is behind: a comma that lacks, and lengths that are no number.
	for _, s := range []string{
		"0;a", "0;;", "2;ab;", "2;ab", "1;ab,", "1;a;", "0;a,", "2;a,a", "1;\u00e4,", "3;\u00e4,\x00\x00", "1;,;", "2;,;", "0;-,", "1;a.",
		"02;ab,", "00;,", "-1;,", "+1;a,", "-0;,", ";,", ",", "a,", "ab,", ";ab,", "2,ab,", "2ab,", "2:ab,", " 2;ab,", "2 ;ab,", "2; ab,", "2;ab ,", "\u0662;ab,", "\xff;,", "\"2\";ab,",
		"1;a\uff0c", "1;a\xc0\xac", // what looks like a comma
		"99999999999999999999;ab,", "9223372036854775807;ab,", "9223372036854775808;ab,", "18446744073709551618;ab,",
	} {
		for _, most := range []int{0, 1, 2, 10, math.MaxInt} {
			failsText(t, s, most)
		}
	}
	// Cut short at any place, also where the length is far above what is left.
	cut := []string{"3;ab,", "3;a,", "1;", "1;a", "2;a,", "100;a,", "99999999999999999;", "99999999999999999;ab,", "9007199254740992;" + strings.Repeat("a", 100) + ","}
	for _, bytes := range texts {
		for n := range len(bytes) {
			cut = append(cut, bytes[:n])
		}
	}
	for _, s := range cut {
		i := knot.Open([]byte(s))
		if got := i.Text(math.MaxInt); got != "" {
			t.Errorf("Text of %.80q: %.80q", s, got)
		}
		taken(t, s, i, 0, true)
	}
}

func TestP4_1MarkIsTaken(t *testing.T) {
	took(t, "+", (*knot.In).Mark, is(true), false)
	took(t, "-", (*knot.In).Mark, is(false), false)
	i := knot.Open([]byte("+--+"))
	for _, want := range []bool{true, false, false, true} {
		if i.Mark() != want {
			t.Errorf("Mark: not %v", want)
		}
	}
	taken(t, "+--+", i, 0, false)
	for b := range 256 {
		s := string([]byte{byte(b)})
		if s != "+" && s != "-" {
			took(t, s, (*knot.In).Mark, is(false), true)
			took(t, s+"+", (*knot.In).Mark, is(false), true)
		}
	}
	for _, s := range []string{"\u00e4", "\uff0b", "\uff0d", "\u2212", "\u2010", "\ufffd", "\xc0\xab", "\xef\xbc", "yes", "true", "1;", "0;", " +", "\x00+", "1;+,"} {
		took(t, s, (*knot.In).Mark, is(false), true)
	}
	i = knot.Open(nil)
	if i.Mark() {
		t.Error("Mark of nothing")
	}
	taken(t, "nothing", i, 0, true)
}

func TestP4_1SubjectIsTaken(t *testing.T) {
	for x, bytes := range subjects {
		took(t, bytes, (*knot.In).Subject, is(x), false)
		for n := range len(bytes) {
			failsAlone(t, bytes[:n], (*knot.In).Subject)
		}
	}
	for _, bytes := range badSubjects {
		took(t, bytes, (*knot.In).Subject, is(api.Subject{}), true)
	}
	for _, s := range []string{"user:ann", "1;a1;b,0;,", "1;a,1;b0;,", "1;a,1;b,-", "1;a,1;b,;,", "1;a,1;b,0;;", "01;a,1;b,0;,", "1;a,01;b,0;,", "1;a,1;b,00;,", "+1;a,1;b,0;,", "1;a;1;b,0;,", "2;a,1;b,0;,", "1;a,99999999999999999;b,0;,"} {
		took(t, s, (*knot.In).Subject, is(api.Subject{}), true)
	}
}

func TestP4_1TupleIsTaken(t *testing.T) {
	for x, bytes := range tuples {
		took(t, bytes, (*knot.In).Tuple, is(x), false)
		for n := range len(bytes) {
			failsAlone(t, bytes[:n], (*knot.In).Tuple)
		}
	}
	for _, bytes := range badTuples {
		took(t, bytes, (*knot.In).Tuple, is(api.Tuple{}), true)
	}
	for _, s := range []string{"doc:readme#viewer@user:ann", "1;a,1;b,1;c,1;d,1;e,-", "1;a,1;b,1;c,1;d,1;e0;,", "1;a,1;b,1;c,1;d,1;e,00;,", "01;a,1;b,1;c,1;d,1;e,0;,", "1;a,1;b,1;c;1;d,1;e,0;,", "1;a,1;b,1;c,+1;d,1;e,0;,"} {
		took(t, s, (*knot.In).Tuple, is(api.Tuple{}), true)
	}
}

func equal(want []api.Tuple) func([]api.Tuple) bool {
	return func(got []api.Tuple) bool { return slices.Equal(got, want) }
}

func none(got []api.Tuple) bool { return len(got) == 0 }

func TestP4_1TuplesAreTaken(t *testing.T) {
	lists(func(l []api.Tuple) {
		bytes := listed(l)
		fault := slices.ContainsFunc(l, func(x api.Tuple) bool { return tuples[x] == "" })
		for _, most := range []int{len(l), len(l) + 1, 1 << 53, math.MaxInt} {
			want := equal(l)
			if fault {
				want = none
			}
			took(t, bytes, func(i *knot.In) []api.Tuple { return i.Tuples(most) }, want, fault)
		}
		for _, most := range []int{len(l) - 1, -1, math.MinInt} {
			took(t, bytes, func(i *knot.In) []api.Tuple { return i.Tuples(most) }, none, true)
		}
	})
}

func TestP4_1WhatIsNoListOfTuples(t *testing.T) {
	x := tuple("a", "b", "c", "d", "e", "")
	one := "1;a,1;b,1;c,1;d,1;e,0;,"
	take := func(i *knot.In) []api.Tuple { return i.Tuples(math.MaxInt) }
	for _, s := range append(slices.Clone(notNumbers), "01;"+one, "-1;"+one, "+1;"+one, "a"+one, "1;-", "1;"+one[1:], "2;"+one+"-", "2;"+one+","+one, "1;,"+one, "1,"+one) {
		took(t, s, take, none, true)
	}
	// Fewer than are told, many fewer too, and a list that is cut short.
	whole := "3;" + one + one + one
	cut := []string{"", "1;", "2;" + one, "3;" + one + one, "200;" + one, "99999999999999999;", "99999999999999999;" + one + one}
	for n := range len(whole) {
		cut = append(cut, whole[:n])
	}
	for _, s := range cut {
		i := knot.Open([]byte(s))
		if got := take(i); len(got) != 0 {
			t.Errorf("Tuples of %.80q: %q", s, got)
		}
		taken(t, s, i, 0, true)
	}
	// More than are told are left behind.
	i := knot.Open([]byte("1;" + one + one))
	if got := take(i); !slices.Equal(got, []api.Tuple{x}) {
		t.Errorf("Tuples of one and one: %q", got)
	}
	taken(t, "one and one", i, len(one), false)
}

func TestP4_1LeftAndEnd(t *testing.T) {
	for _, none := range [][]byte{nil, {}} {
		i := knot.Open(none)
		taken(t, "nothing", i, 0, false)
	}
	i := knot.Open([]byte("12;2;ab,+1;a,1;b,0;,0;"))
	taken(t, "at first", i, 22, false)
	i.Number(12)
	taken(t, "behind the number", i, 19, false)
	i.Text(2)
	taken(t, "behind the text", i, 14, false)
	i.Mark()
	taken(t, "behind the mark", i, 13, false)
	i.Subject()
	taken(t, "behind the subject", i, 2, false)
	i.Tuples(0)
	taken(t, "behind the list", i, 0, false)
	i.Mark()
	taken(t, "one thing more", i, 0, true)
	// To ask takes nothing, and fails nothing.
	i = knot.Open([]byte("1;x,-"))
	for range 3 {
		taken(t, "1;x,-", i, 5, false)
	}
	if i.Text(1) != "x" {
		t.Error("Text behind End")
	}
	taken(t, "-", i, 1, false)
}

// things are the calls that take, each telling whether it answers its zero.
var things = map[string]func(i *knot.In) bool{
	"Number":   func(i *knot.In) bool { return i.Number(math.MaxInt) == 0 },
	"Number 0": func(i *knot.In) bool { return i.Number(0) == 0 },
	"Text":     func(i *knot.In) bool { return i.Text(math.MaxInt) == "" },
	"Text 0":   func(i *knot.In) bool { return i.Text(0) == "" },
	"Mark":     func(i *knot.In) bool { return !i.Mark() },
	"Subject":  func(i *knot.In) bool { return i.Subject() == api.Subject{} },
	"Tuple":    func(i *knot.In) bool { return i.Tuple() == api.Tuple{} },
	"Tuples":   func(i *knot.In) bool { return len(i.Tuples(math.MaxInt)) == 0 },
	"Tuples 0": func(i *knot.In) bool { return len(i.Tuples(0)) == 0 },
}

// An untying that has failed takes nothing any more, whatever stood there.
func TestP4_1BehindAFailure(t *testing.T) {
	one := "1;a,1;b,1;c,1;d,1;e,0;,"
	fronts := []string{"!", "", "1", "01;", "2;a,+", "0;+", "1;A,1;a,0;,", "1;a,1;b,0;,1;c,", "1;a,1;b,1;c,1;d,1;e,1;E,", "2;" + one + "1;A,", "99999999999999999;", ";", ","}
	for first, fails := range things {
		for _, front := range fronts {
			for _, back := range []string{"", "0;", "5;5;5;", "1;a,1;b,1;c,", "0;,0;,", "++", "--", one + one, "1;" + one + "1;" + one} {
				i := knot.Open([]byte(front + back))
				fails(i)
				if i.End() == api.OK || i.Left() > 0 { // it didn't fail: another thing stands there
					continue
				}
				for further, zero := range things {
					if !zero(i) {
						t.Errorf("%q: %s is taken behind %s, which failed", front+back, further, first)
					}
					taken(t, front+back, i, 0, true)
				}
			}
		}
	}
	// Each thing at a place where none of it stands fails, and all the others behind it.
	for first, fails := range things {
		for further, again := range things {
			i := knot.Open([]byte("!5;1;a,+-1;a,1;b,0;," + one + "1;" + one))
			zeros := fails(i) && again(i)
			taken(t, first+", then "+further, i, 0, true)
			if !zeros {
				t.Errorf("%s, then %s: one isn't zero", first, further)
			}
		}
	}
	// So does one behind things that were taken, and these stay as they were.
	i := knot.Open([]byte("2;ab,7;01;+"))
	s, n := i.Text(2), i.Number(7)
	if i.Number(1) != 0 || i.Mark() || i.Left() != 0 || i.End() != api.ErrForm || s != "ab" || n != 7 {
		t.Error("a failure behind things that were taken")
	}
}
