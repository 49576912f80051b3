package spool_test

import (
	"fmt"
	"math/rand"
	"slices"
	"strings"
	"testing"

	"stile/api"
	"stile/spool"
	"stile/tray"
)

// Each bit of a sector counts.
func TestP13_1EachBitCounts(t *testing.T) {
	r := ring(1, 5)
	for at := range 2 {
		for bit := range 8 * api.Sector {
			x := laid(t, 7)
			put(t, x, r, split(3, 7, text(150, 1), 108, 42)...)
			put(t, x, r, whole(3, 9, "z"))
			b := read(t, x, 1+(7+at)%5)
			b[bit/8] ^= 1 << (bit % 8)
			writes(t, x, 1+(7+at)%5, b)
			opens(t, x, r, 7, 9)
		}
	}
}

// What stands otherwise than it must, its sum being right, isn't found.
func TestP13_1OneThatIsntRight(t *testing.T) {
	r, good := ring(1, 5), whole(3, 7, "abc")
	for name, turn := range map[string]func(s *sector){
		"another sign":         func(s *sector) { s.sign = 0x4d },
		"no sign":              func(s *sector) { s.sign = 0 },
		"the number ahead":     func(s *sector) { s.number-- },
		"the number behind":    func(s *sector) { s.number++ },
		"a round ahead":        func(s *sector) { s.number -= 5 },
		"a round behind":       func(s *sector) { s.number += 5 },
		"a far number":         func(s *sector) { s.number += 1 << 40 },
		"the second one":       func(s *sector) { s.part, s.parts = 1, 2 },
		"the second one of 1":  func(s *sector) { s.part = 1 },
		"one of 256":           func(s *sector) { s.part = 256 },
		"of none":              func(s *sector) { s.parts = 0 },
		"of two":               func(s *sector) { s.parts = 2 },
		"of many":              func(s *sector) { s.parts = 65_535 },
		"fewer bytes":          func(s *sector) { s.size-- },
		"noughts that aren't":  func(s *sector) { s.size = 0 },
		"109 bytes":            func(s *sector) { s.size = 109 },
		"255 bytes":            func(s *sector) { s.size = 255 },
		"109 noughts":          func(s *sector) { s.size, s.bytes = 109, "" },
		"the last nought":      func(s *sector) { s.bytes += strings.Repeat("\x00", 104) + "x" },
		"a sum that is higher": func(s *sector) { s.over = 1 },
		"a sum that is lower":  func(s *sector) { s.over = -1 },
		"too great an epoch":   func(s *sector) { s.epoch = 9 },
		"the greatest epoch":   func(s *sector) { s.epoch = epochs },
	} {
		for _, ahead := range []bool{false, true} {
			x, bad, want := laid(t, 7), good, []string(nil)
			turn(&bad)
			if ahead {
				put(t, x, r, whole(3, 6, "ahead"))
				want = []string{"ahead"}
			}
			put(t, x, r, whole(3, 8, "behind"))
			writes(t, x, 1+7%5, bad.raw())
			t.Run(name, func(t *testing.T) {
				opens(t, x, r, 7-len(want), 9, want...)
				writes(t, x, 1+7%5, good.raw())
				opens(t, x, r, 7-len(want), 9, append(want, "abc", "behind")...)
			})
		}
	}
}

// Nor is a record found of which one sector stands otherwise than with the
// others.
func TestP13_1PartsThatArentRight(t *testing.T) {
	r, b := ring(2, 6), text(300, 4)
	for name, turn := range map[string]func(s *sector){
		"a lower epoch":    func(s *sector) { s.epoch-- },
		"a higher epoch":   func(s *sector) { s.epoch++ },
		"the part ahead":   func(s *sector) { s.part-- },
		"the part behind":  func(s *sector) { s.part++ },
		"of one more":      func(s *sector) { s.parts++ },
		"of one less":      func(s *sector) { s.parts-- },
		"of none":          func(s *sector) { s.parts = 0 },
		"another number":   func(s *sector) { s.number += 6 },
		"another sign":     func(s *sector) { s.sign++ },
		"another sum":      func(s *sector) { s.over = 1 << 31 },
		"too many bytes":   func(s *sector) { s.size = 109 },
		"nothing":          func(s *sector) { *s = sector{number: s.number} },
		"one of its own":   func(s *sector) { s.part, s.parts = 0, 1 },
		"fewer bytes of 2": func(s *sector) { s.parts, s.size = 2, s.size-1 },
	} {
		for k := range 3 {
			x := laid(t, 9)
			put(t, x, r, whole(2, 4, "ahead"))
			l := split(5, 5, b, 108, 108, 84)
			put(t, x, r, l...)
			put(t, x, r, whole(5, 8, "behind"))
			bad, want := l[k], []string{"ahead"}
			turn(&bad)
			if name == "one of its own" && k == 0 {
				want = append(want, b[:108])
			}
			t.Run(fmt.Sprint(name, k), func(t *testing.T) {
				opens(t, x, r, 4, 7, "ahead", b, "behind")
				writes(t, x, 2+l[k].number%6, bad.raw())
				opens(t, x, r, 4, 7, want...)
			})
		}
	}
}

// All but the last one have 108 bytes; the last one any number, none, too.
func TestP13_1Sizes(t *testing.T) {
	r := ring(0, 4)
	for n := range 109 {
		x := laid(t, 4)
		put(t, x, r, whole(1, 0, text(n, 1)))
		put(t, x, r, split(1, 1, text(108+n, 2), 108, n)...)
		opensTo(t, x, r, 0, 2, 3, text(n, 1), text(108+n, 2))
		if n == 108 {
			continue
		}
		put(t, x, r, split(1, 1, text(108+n, 2), n, 108)...)
		opens(t, x, r, 0, 2, text(n, 1))
		put(t, x, r, split(1, 1, text(2*n, 2), n, n)...)
		opens(t, x, r, 0, 2, text(n, 1))
		put(t, x, r, split(1, 1, text(216+n, 2), 108, n, 108)...)
		opens(t, x, r, 0, 2, text(n, 1))
		put(t, x, r, split(1, 1, text(216+n, 2), 108, 108, n)...)
		opensTo(t, x, r, 0, 2, 4, text(n, 1), text(216+n, 2))
	}
}

// A record has at most 60,000 bytes, however many sectors stand there.
func TestP13_1NoRecordIsGreater(t *testing.T) {
	for last, found := range map[int]bool{0: true, 1: true, 59: true, 60: true, 61: false, 108: false} {
		x, r := laid(t, 600), ring(0, 600)
		put(t, x, r, split(1, 0, text(555*108+last, 1), append(slices.Repeat([]int{108}, 555), last)...)...)
		if found {
			opensTo(t, x, r, 0, 2, 556, text(555*108+last, 1))
		} else {
			opens(t, x, r, 0, 2)
		}
	}
	x, r := laid(t, 600), ring(0, 600)
	put(t, x, r, split(1, 0, text(556*108, 1), append(slices.Repeat([]int{108}, 556), 0)...)...)
	opens(t, x, r, 0, 2)
}

// Epochs: at most one less than the spool's, none below the one ahead; 0, too.
func TestP13_1Epochs(t *testing.T) {
	x, r := laid(t, 8), ring(1, 6)
	for k, epoch := range []int{0, 0, 4, 4, 9, 3} {
		put(t, x, r, whole(epoch, 10+k, fmt.Sprint(k)))
	}
	for epoch, want := range map[int]string{1: "01", 2: "01", 4: "01", 5: "0123", 9: "0123", 10: "01234", 11: "01234", epochs: "01234"} {
		opens(t, x, r, 10, epoch, strings.Split(want, "")...)
	}
	// Those ahead of the head don't count.
	opens(t, x, r, 15, 4, "5")
	opens(t, x, r, 15, 3)
	opens(t, x, r, 14, 9)
	opens(t, x, r, 14, 10, "4")
	put(t, x, r, whole(epochs-1, 10, "a"), whole(epochs, 11, "b"))
	opens(t, x, r, 10, epochs, "a")
	opens(t, x, r, 10, epochs-1)
	opens(t, x, r, 11, epochs)
	// A record between doesn't let a lower one be found behind it.
	put(t, x, r, whole(5, 10, "a"), whole(6, 11, "b"), whole(5, 12, "c"))
	opens(t, x, r, 10, 9, "a", "b")
	opens(t, x, r, 10, 7, "a", "b")
	opens(t, x, r, 10, 6, "a")
}

// What is found ends behind Count sectors, wherever the head stands.
func TestP13_1AllOfTheRing(t *testing.T) {
	for count := 2; count < 8; count++ {
		for head := range 2*count + 1 {
			x, r := laid(t, 10), ring(3, count)
			var want []string
			for k := range count {
				put(t, x, r, whole(1, head+k, fmt.Sprint(k)))
				want = append(want, fmt.Sprint(k))
			}
			s := opens(t, x, r, head, 2, want...)
			appends(t, s, "", api.ErrFull)
			s.Cut()
			stands(t, s, head+count, head+count, count)
			appends(t, s, text(108*count, 1), api.OK)
			opens(t, x, r, head+count, 3, text(108*count, 1))
			// A record that has one sector more than there are isn't found.
			l := split(1, head, text(108*(count+1), 1), slices.Repeat([]int{108}, count+1)...)
			put(t, x, r, l[:count]...)
			opens(t, x, r, head, 2)
			put(t, x, r, l[count])
			opens(t, x, r, head, 2)
			opens(t, x, r, head+1, 2)
		}
	}
}

// A tail far behind the greatest head goes on.
func TestP13_1GreatestHead(t *testing.T) {
	x, r := laid(t, 4), ring(1, 3)
	s := opens(t, x, r, steps, 1)
	for k := range 10 {
		appends(t, s, text(300, k), api.OK)
		opens(t, x, r, steps-1, 2)
		if k == 0 {
			opens(t, x, r, steps, 2, text(300, 0))
		}
		s.Cut()
		stands(t, s, steps+3*k+3, steps+3*k+3, 3)
	}
	if !slices.Equal(read(t, x, 1+(steps+28)%3), split(1, steps+27, text(300, 9), 108, 108, 84)[1].raw()) {
		t.Error("a sector behind the greatest head")
	}
}

// asSector is what a sector tells, if it can be one of a spool: made again
// from what it tells it is the same.
func asSector(b []byte) (sector, bool) {
	n := func(from, to int) int {
		x := 0
		for _, c := range b[from:to] {
			x = x*256 + int(c)
		}
		return x
	}
	s := sector{sign: b[0], epoch: n(1, 5), number: n(5, 11), part: n(11, 13), parts: n(13, 15), size: n(15, 16)}
	if s.sign != 0x53 || s.size > piece || n(124, 128) != int(sum(b[:124])) {
		return s, false
	}
	s.bytes = string(b[16 : 16+s.size])
	return s, strings.Trim(string(b[16+s.size:124]), "\x00") == ""
}

// found is what the chapter's words find, told from all of a ring's sectors,
// and where it ends.
func found(t *testing.T, x *tray.Tray, r spool.Ring, head, epoch int) (l []string, tail int) {
	t.Helper()
	at := map[int]sector{}
	for k := range r.Count {
		if s, ok := asSector(read(t, x, r.First+k)); ok && s.number%r.Count == k {
			at[s.number] = s
		}
	}
	least, n := 0, head
	for n < head+r.Count {
		var parts []sector
		for k := n; ; k++ {
			s, ok := at[k]
			if !ok || s.epoch < least || s.epoch >= epoch || s.part != k-n {
				return l, n
			}
			parts = append(parts, s)
			if s.parts == len(parts) {
				break
			}
		}
		whole := ""
		for k, s := range parts {
			if s.epoch != parts[0].epoch || s.parts != len(parts) || k+1 < len(parts) && s.size != piece {
				return l, n
			}
			whole += s.bytes
		}
		l = append(l, whole)
		n += len(parts)
		least = parts[0].epoch
	}
	return l, n
}

// Rings of sectors that are almost right, against the chapter's words.
func TestP13_1FoundAgainstAModel(t *testing.T) {
	m, many := rand.New(rand.NewSource(131)), 0
	for range 20_000 {
		count := 2 + m.Intn(8)
		x, r := laid(t, 12), ring(m.Intn(12-count+1), count)
		start := m.Intn(30)
		epoch := m.Intn(3)
		for n := start; n < start+count; {
			parts := min(1+m.Intn(3)*m.Intn(2), start+count-n)
			epoch = max(0, epoch+m.Intn(14)/10-m.Intn(14)/13)
			sizes := slices.Repeat([]int{piece}, parts)
			sizes[parts-1] = m.Intn(109)
			for _, s := range split(epoch, n, text(piece*parts, m.Intn(50)), sizes...) {
				if m.Intn(25) == 0 {
					spoil(m, &s)
				}
				writes(t, x, r.First+n%count, s.raw())
				n++
			}
		}
		head, epoch := start+m.Intn(20)/18, 1+m.Intn(6)
		want, tail := found(t, x, r, head, epoch)
		many += min(1, len(want)/2)
		opensTo(t, x, r, head, epoch, tail, want...)
	}
	if many < 5000 {
		t.Errorf("only %d rings of several records", many)
	}
}

// spoil makes one thing of a sector another.
func spoil(m *rand.Rand, s *sector) {
	switch m.Intn(9) {
	case 0:
		s.sign = byte(m.Intn(256))
	case 1:
		s.epoch = max(0, s.epoch+m.Intn(3)-1)
	case 2:
		s.number += m.Intn(21) - 10
		s.number = max(0, s.number)
	case 3:
		s.part = m.Intn(3)
	case 4:
		s.parts = m.Intn(4)
	case 5:
		s.size = m.Intn(110)
	case 6:
		s.over = m.Intn(2)
	case 7:
		s.bytes += strings.Repeat("\x01", min(1, 108-len(s.bytes)))
	case 8:
		s.part, s.parts = 0, 1
	}
}
