package sigil_test

import (
	"slices"
	"strings"
	"testing"
	"unsafe"

	"stile/api"
	"stile/sigil"
)

// memory is a text's, or a list's with its spare room.
type memory struct {
	at   unsafe.Pointer
	size uintptr
}

func ofText(s string) memory {
	return memory{unsafe.Pointer(unsafe.StringData(s)), uintptr(len(s))}
}

// ofTokens is all memory of an answer.
func ofTokens(l []sigil.Token) []memory {
	all := []memory{{unsafe.Pointer(unsafe.SliceData(l)), uintptr(cap(l)) * unsafe.Sizeof(sigil.Token{})}}
	for _, x := range l {
		all = append(all, ofText(x.Text))
	}
	return all
}

func overlap(a, b memory) bool {
	return a.size > 0 && b.size > 0 && uintptr(a.at) < uintptr(b.at)+b.size && uintptr(b.at) < uintptr(a.at)+a.size
}

// apart: does none share a byte with another?
func apart(all []memory) bool {
	for k, a := range all {
		for _, b := range all[:k] {
			if overlap(a, b) {
				return false
			}
		}
	}
	return true
}

// some are texts, right and wrong ones.
var some = []string{
	"", "a", "->", "-", "type rel this", "rel a->b // x", "{}[]()=;,:#*|&-", "a a a a a", "- - -> ->", "abcdefghijklmnop", "\n\u3000viewer\n", "type doc {\n\u3000rel a_1 [x#m, y:*] = this-(b->c|d)&e; // \u00e4->\n}",
	"abcdefghijklmnopq", "a A", "a /b", "a\n>", "\u00e4", "a\xff", "//\xff", strings.Repeat("a ", 1500), strings.Repeat("a ", 1501), strings.Repeat("\u3000", 3001), strings.Repeat("abcdefg;\n", 333) + "rel",
}

// handed is a text whose bytes the test may look at, and change.
func handed(s string) (string, []byte) {
	raw := append([]byte("type"), s...)
	raw = append(raw, "rel//"...)
	if s == "" {
		return "", raw
	}
	return unsafe.String(&raw[4], len(s)), raw
}

func TestP6_3WhatIsHandedInStaysAndIsntKept(t *testing.T) {
	for _, s := range some {
		own, raw := handed(s)
		l, p, e := sigil.Lex(own)
		end := sigil.End(own)
		if string(raw) != "type"+s+"rel//" {
			t.Errorf("%.40q: it is changed, or what stands around it", s)
		}
		want, wantP, wantE := sigil.Lex(s)
		for k := range raw {
			raw[k] = 'x'
		}
		if !slices.Equal(l, want) || p != wantP || e != wantE || end != sigil.End(s) {
			t.Errorf("%.40q: its tokens hang on what was handed in", s)
		}
	}
}

func TestP6_3AnswersAreNewMemory(t *testing.T) {
	for _, s := range some {
		first, _, _ := sigil.Lex(s)
		second, _, _ := sigil.Lex(s)
		if len(first) > 200 {
			first, second = first[:200:cap(first)], second[:200:cap(second)]
		}
		all := append(ofTokens(first), ofTokens(second)...)
		if !apart(all) {
			t.Errorf("%.40q: two answers, or two tokens of one, share memory", s)
		}
		for _, m := range all {
			if overlap(m, ofText(s)) {
				t.Errorf("%.40q: an answer shares memory with it", s)
			}
		}
		for k := range first[:cap(first)] {
			first[:cap(first)][k] = sigil.Token{Kind: 99, Text: "spoilt"}
		}
		if third, _, _ := sigil.Lex(s); !slices.Equal(third[:len(second)], second) {
			t.Errorf("%.40q: an answer hangs on one ahead", s)
		}
	}
}

func TestP9EveryCallEnds(t *testing.T) {
	calls := func(s string) {
		sigil.Lex(s)
		sigil.End(s)
	}
	for a := range 256 {
		for b := range 256 {
			for _, c := range []string{"", "a", "/", "\n", "\xff"} {
				calls(string([]byte{byte(a), byte(b)}) + c)
			}
		}
	}
	for _, s := range []string{"a", "-", "->", "/", "//", " ", "\n", "\u3000", "\u00e4", "\xff", "\xe3\x80", "{", "_", "//\n"} {
		calls(strings.Repeat(s, 1<<20))
		calls(strings.Repeat(s, 3000/len([]rune(s))))
	}
}

// R2 and R3: the first error stands alone, but for the place that ErrLex tells.
func TestP10ErrorsStandAlone(t *testing.T) {
	zero := sigil.Place{}
	texts(3, append(pieces, strings.Repeat("\u3000", 3000), "abcdefghijklmnopq"), func(s string) {
		l, p, e := sigil.Lex(s)
		switch e {
		case api.OK:
			if p == zero {
				t.Fatalf("R3: Lex(%.40q): no place behind the last rune", s)
			}
		case api.ErrText, api.ErrFull:
			if len(l) != 0 || p != zero {
				t.Fatalf("R3: Lex(%.40q): %d tokens, %v, %d", s, len(l), p, e)
			}
		case api.ErrLex:
			if len(l) != 0 || p.Line < 1 || p.Column < 1 {
				t.Fatalf("R3: Lex(%.40q): %d tokens, %v, %d", s, len(l), p, e)
			}
		default:
			t.Fatalf("Lex(%.40q): %d, which the chapter doesn't name", s, e)
		}
	})
	refused(t, strings.Repeat("A", 3001)+"\xff", api.ErrText, zero)
	refused(t, strings.Repeat("A", 3001), api.ErrFull, zero)
	refused(t, strings.Repeat("A", 3000), api.ErrLex, at(1, 1))
}

// R5: a text without tokens answers an empty list, which may be nil.
func TestP10EmptyListsMeanTheSame(t *testing.T) {
	for _, s := range []string{"", " ", "\n", "//", "\u3000// a\n"} {
		if l, _, e := sigil.Lex(s); len(l) != 0 || e != api.OK {
			t.Errorf("R5: Lex(%q): %s, %d", s, show(l), e)
		}
	}
}

// R4 and R8: answers hang on arguments alone: not on calls ahead, nor on those
// that fail.
func TestP10AnswersHangOnArgumentsAlone(t *testing.T) {
	type answer struct {
		tokens   string
		at, ends sigil.Place
		e        api.Errno
	}
	ask := func(s string) answer {
		l, p, e := sigil.Lex(s)
		return answer{show(l), p, sigil.End(s), e}
	}
	var first []answer
	for _, s := range some {
		first = append(first, ask(s))
	}
	for k := len(some) - 1; k >= 0; k-- {
		own, _ := handed(some[k])
		if ask(own) != first[k] {
			t.Errorf("R8: %.40q: another answer the second time", some[k])
		}
	}
}
