package cask_test

import (
	"testing"

	"stile/api"
	"stile/canon"
	"stile/cask"
	"stile/grammar"
)

func TestP10_2ThereAndBack(t *testing.T) {
	l := good()
	m := newMaker(103)
	for range 2000 {
		l = append(l, m.config())
	}
	for _, c := range l {
		b, e := cask.Pack(c)
		if e != api.OK {
			t.Fatalf("Pack(%.300q): %d", ofConfig(c), e)
		}
		x, e := cask.Unpack(b)
		if e != api.OK || !cask.Same(x, c) || ofConfig(x) != ofConfig(c) {
			t.Fatalf("Unpack(%.300q): %.300q, %d", b, ofConfig(x), e)
		}
	}
}

func TestP10_2WhatIsParsed(t *testing.T) {
	for _, s := range []string{"", "type a {}", "type u {} type d { rel a [u, d#a, u:*] = this - (b | p->a) & c; rel b = a - (a - a); rel p [d] = this; rel c = b | p->a | this; }"} {
		c, _, e := grammar.Parse(s)
		if e != api.OK {
			t.Fatal(e)
		}
		b, e := cask.Pack(c)
		if e != api.OK {
			t.Fatalf("Pack of %q: %d", s, e)
		}
		x, e := cask.Unpack(b)
		if e != api.OK || !cask.Same(x, c) {
			t.Fatalf("Unpack(%q): %d", b, e)
		}
		was, _ := canon.Print(c)
		if is, _ := canon.Print(x); is != was {
			t.Errorf("%q is printed as %q, unpacked as %q", s, was, is)
		}
	}
}

// justSo: whatever is unpacked of bytes is well made, and has just these.
func justSo(t *testing.T, s string) {
	t.Helper()
	c, e := cask.Unpack([]byte(s))
	if e == api.ErrForm && len(c.Types) == 0 {
		return
	}
	b, f := cask.Pack(c)
	if e != api.OK || f != api.OK || string(b) != s || ofConfig(c) != s || !canon.Good(c) {
		t.Fatalf("Unpack(%.300q): %.300q, %d", s, ofConfig(c), e)
	}
}

// Bytes that are one change off those of a configuration.
func TestP10_2JustTheseBytes(t *testing.T) {
	pieces := []string{"", "0", "1", "9", "0;", "1;", "2;", ";", ",", "+", "-", "a", "b", "A", " ", "\x00", "\xff", "\u00e4", "1;a,", "0;,", "1;0;,0;,0;"}
	m := newMaker(104)
	l := []api.Config{{}, whole(), config(wide(24)), config(chain(api.Except, 8))}
	for range 10 {
		l = append(l, m.config())
	}
	for _, c := range l {
		s := ofConfig(c)
		for at := range len(s) {
			for _, p := range pieces {
				justSo(t, s[:at]+p+s[at:])
				justSo(t, s[:at]+p+s[at+1:])
			}
		}
	}
}

// Bytes that are many changes off.
func TestP10_2FarBytes(t *testing.T) {
	m := newMaker(105)
	const bytes = "0123456;;;;,,,+-ab"
	for range 20000 {
		b := []byte(ofConfig(m.config()))
		for range m.Intn(4) {
			b[m.Intn(len(b))] = bytes[m.Intn(len(bytes))]
		}
		from := m.Intn(len(b))
		to := from + m.Intn(len(b)-from)
		switch m.Intn(4) {
		case 0:
			b = append(b[:from], b[to:]...)
		case 1:
			b = append(b[:to:to], b[from:]...)
		}
		justSo(t, string(b))
	}
}
