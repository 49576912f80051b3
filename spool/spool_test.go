package spool_test

import (
	"bytes"
	"encoding/binary"
	"hash/crc32"
	"math"
	"math/bits"
	"slices"
	"strings"
	"testing"

	"stile/api"
	"stile/spool"
	"stile/tray"
)

const (
	most   = 60_000 // bytes of a record
	piece  = 108    // bytes of a record on a sector
	steps  = 1 << 40
	epochs = 1<<32 - 1
)

// laid is a new tray of so many sectors.
func laid(t *testing.T, sectors int) *tray.Tray {
	t.Helper()
	x, e := tray.New(sectors)
	if e != api.OK {
		t.Fatalf("tray.New(%d): %d", sectors, e)
	}
	return x
}

func ring(first, count int) spool.Ring { return spool.Ring{First: first, Count: count} }

// texts are records as texts.
func texts(l [][]byte) []string {
	var s []string
	for _, b := range l {
		s = append(s, string(b))
	}
	return s
}

// brief is a list of texts, each clipped.
func brief(l []string) []string {
	var s []string
	for _, x := range l {
		if len(x) > 12 {
			x = x[:12] + ".."
		}
		s = append(s, x)
	}
	return s
}

// opens opens a spool, in which just these records are found, on as many
// sectors as they take.
func opens(t *testing.T, x *tray.Tray, r spool.Ring, head, epoch int, want ...string) *spool.Spool {
	t.Helper()
	tail := head
	for _, w := range want {
		tail += takes(len(w))
	}
	return opensTo(t, x, r, head, epoch, tail, want...)
}

// opensTo opens a spool, in which just these records are found, up to a tail.
func opensTo(t *testing.T, x *tray.Tray, r spool.Ring, head, epoch, tail int, want ...string) *spool.Spool {
	t.Helper()
	s, l, e := spool.Open(x, r, head, epoch)
	if s == nil || e != api.OK {
		t.Fatalf("Open(%v, %d, %d): %v, %d", r, head, epoch, s, e)
	}
	if !slices.Equal(texts(l), want) {
		t.Errorf("Open(%v, %d, %d) found %q, want %q", r, head, epoch, brief(texts(l)), brief(want))
	}
	stands(t, s, head, tail, r.Count-(tail-head))
	return s
}

// takes is how many sectors so many bytes take.
func takes(n int) int {
	if n == 0 {
		return 1
	}
	return n/piece + min(n%piece, 1)
}

func stands(t *testing.T, s *spool.Spool, head, tail, room int) {
	t.Helper()
	if s.Head() != head || s.Tail() != tail || s.Room() != room {
		t.Errorf("Head %d, Tail %d, Room %d, want %d, %d, %d", s.Head(), s.Tail(), s.Room(), head, tail, room)
	}
}

func appends(t *testing.T, s *spool.Spool, b string, want api.Errno) {
	t.Helper()
	if e := s.Append([]byte(b)); e != want {
		t.Errorf("Append of %d bytes: %d, want %d", len(b), e, want)
	}
}

// A sector of the spool, field by field.
type sector struct {
	sign          byte
	epoch, number int
	part, parts   int
	size          int
	bytes         string
	over          int // what is added to its sum
}

// whole is the one sector of a record of one.
func whole(epoch, number int, b string) sector {
	return sector{sign: 0x53, epoch: epoch, number: number, parts: 1, size: len(b), bytes: b}
}

// split are the sectors of a record, of the sizes.
func split(epoch, number int, b string, sizes ...int) []sector {
	var l []sector
	for k, n := range sizes {
		l = append(l, sector{sign: 0x53, epoch: epoch, number: number + k, part: k, parts: len(sizes), size: n, bytes: b[:n]})
		b = b[n:]
	}
	return l
}

// raw are its bytes.
func (s sector) raw() []byte {
	b := []byte{s.sign}
	b = binary.BigEndian.AppendUint32(b, uint32(s.epoch))
	b = binary.BigEndian.AppendUint16(b, uint16(s.number>>32))
	b = binary.BigEndian.AppendUint32(b, uint32(s.number))
	b = binary.BigEndian.AppendUint16(b, uint16(s.part))
	b = binary.BigEndian.AppendUint16(b, uint16(s.parts))
	b = append(b, byte(s.size))
	b = append(b, s.bytes...)
	b = append(b, make([]byte, 124-len(b))...)
	return binary.BigEndian.AppendUint32(b, sum(b)+uint32(s.over))
}

// sum is the plain CRC-32 by way of the library's, whose bits stand the other
// way round and are turned at the end.
func sum(b []byte) uint32 {
	m := make([]byte, len(b))
	for k, x := range b {
		m[k] = bits.Reverse8(x)
	}
	return bits.Reverse32(^crc32.ChecksumIEEE(m))
}

// put puts sectors where their numbers stand.
func put(t *testing.T, x *tray.Tray, r spool.Ring, l ...sector) {
	t.Helper()
	for _, s := range l {
		writes(t, x, r.First+s.number%r.Count, s.raw())
	}
}

func writes(t *testing.T, x *tray.Tray, at int, b []byte) {
	t.Helper()
	if e := x.Write(at, b); e != api.OK {
		t.Fatalf("Write(%d): %d", at, e)
	}
}

func read(t *testing.T, x *tray.Tray, at int) []byte {
	t.Helper()
	b, e := x.Read(at)
	if e != api.OK {
		t.Fatalf("Read(%d): %d", at, e)
	}
	return b
}

// all is all that is read of a tray.
func all(t *testing.T, x *tray.Tray) string {
	t.Helper()
	var b []byte
	for at := range x.Sectors() {
		b = append(b, read(t, x, at)...)
	}
	return string(b)
}

// text is so many bytes, each place and each seed with another one, noughts
// among them.
func text(n, seed int) string {
	b := make([]byte, n)
	for k := range b {
		b[k] = byte(k*7 + k/251 + seed*13)
	}
	return string(b)
}

func TestP13_1Example(t *testing.T) {
	x := laid(t, 8)
	s := opens(t, x, ring(2, 4), 0, 1)
	appends(t, s, text(109, 0), api.OK)
	stands(t, s, 0, 2, 2)
	if c := spool.Sum([]byte("123456789")); c != 0x0376e6e7 {
		t.Errorf("Sum: %08x", c)
	}
}

func TestP13_1Sum(t *testing.T) {
	for s, want := range map[string]uint32{
		"": 0xffffffff, "123456789": 0x0376e6e7, "\x00": 0x4e08bfb4, "\x00\x00\x00\x00": 0xc704dd7b, "\xff\xff\xff\xff": 0,
	} {
		if c := spool.Sum([]byte(s)); c != want {
			t.Errorf("Sum(%q): %08x, want %08x", s, c, want)
		}
	}
	if spool.Sum(nil) != 0xffffffff {
		t.Error("Sum of nil")
	}
	for n := range 600 {
		b := []byte(text(n, n))
		if c := spool.Sum(b); c != sum(b) {
			t.Errorf("Sum of %d bytes: %08x, want %08x", n, c, sum(b))
		}
	}
	for x := range 256 { // each byte, ahead and behind
		for _, b := range [][]byte{{byte(x)}, {byte(x), 'a'}, {'a', byte(x)}} {
			if c := spool.Sum(b); c != sum(b) {
				t.Errorf("Sum(%x): %08x, want %08x", b, c, sum(b))
			}
		}
	}
}

func TestP13_1OpenIsntInRange(t *testing.T) {
	x := laid(t, 10)
	put(t, x, ring(0, 4), whole(0, 0, "a"))
	refuses := func(x *tray.Tray, r spool.Ring, head, epoch int) {
		t.Helper()
		if s, l, e := spool.Open(x, r, head, epoch); s != nil || len(l) != 0 || e != api.ErrRange {
			t.Errorf("Open(%v, %d, %d): %v, %q, %d, want ErrRange", r, head, epoch, s, l, e)
		}
	}
	for _, r := range []spool.Ring{
		{0, 0}, {0, 1}, {9, 1}, {0, -1}, {0, math.MinInt}, {5, -4}, {0, 11}, {1, 10}, {7, 4}, {9, 2}, {10, 2}, {11, 2},
		{-1, 4}, {-1, 2}, {-2, 2}, {math.MinInt, 4}, {math.MaxInt, 4}, {math.MaxInt - 3, 4}, {math.MaxInt - 1, 2}, {0, math.MaxInt},
		{1, math.MaxInt}, {math.MaxInt, math.MaxInt}, {math.MinInt, math.MaxInt}, {math.MinInt, math.MinInt}, {0, 4097}, {1 << 32, 4}, {0, 1<<32 + 4},
	} {
		refuses(x, r, 0, 1)
	}
	for _, head := range []int{-1, math.MinInt, -1 << 40, steps + 1, steps * 2, math.MaxInt} {
		refuses(x, ring(0, 4), head, 1)
	}
	for _, epoch := range []int{0, -1, math.MinInt, epochs + 1, epochs + 2, 1 << 40, math.MaxInt} {
		refuses(x, ring(0, 4), 0, epoch)
	}
	big := laid(t, 4096)
	refuses(big, ring(0, 4097), 0, 1)
	refuses(big, ring(1, 4096), 0, 1)
	refuses(big, ring(-1, 4096), 0, 1)
}

func TestP13_1OpenIsInRange(t *testing.T) {
	x := laid(t, 10)
	for _, r := range []spool.Ring{{0, 2}, {8, 2}, {0, 10}, {1, 9}, {6, 4}} {
		for _, head := range []int{0, 1, 2, 3, 9, steps - 1, steps} {
			for _, epoch := range []int{1, 2, epochs - 1, epochs} {
				opens(t, x, r, head, epoch)
			}
		}
	}
	opens(t, laid(t, 4096), ring(0, 4096), steps, epochs)
	opens(t, laid(t, 4096), ring(4094, 2), steps, epochs)
}

// Open does no step: it needs no power, and leaves the cache as it is.
func TestP13_1OpenIsNoStep(t *testing.T) {
	x, r := laid(t, 6), ring(1, 4)
	put(t, x, r, whole(3, 2, "a"), whole(3, 3, "b"))
	before := all(t, x)
	x.Power(0)
	s := opens(t, x, r, 2, 4, "a", "b")
	s.Cut()
	if x.Cached() != 2 || x.Dark() || all(t, x) != before {
		t.Errorf("Open: Cached %d, Dark %v", x.Cached(), x.Dark())
	}
}

// Each record's sectors stand as they must, at any number, and no other
// sector is touched.
func TestP13_1Sectors(t *testing.T) {
	for _, c := range []struct {
		sectors int
		r       spool.Ring
	}{{4, ring(0, 4)}, {10, ring(3, 5)}, {10, ring(8, 2)}, {20, ring(0, 20)}} {
		for _, head := range []int{0, 1, 4, 7, 255, 65_535, 1<<32 - 1, 0x123456789a, steps - 1, steps} {
			for _, epoch := range []int{1, 0x01020304, epochs} {
				for _, n := range []int{0, 1, 50, 107, 108, 109, 215, 216, 217, 324, 540} {
					if takes(n) <= c.r.Count {
						checkSectors(t, c.sectors, c.r, head, epoch, n)
					}
				}
			}
		}
	}
}

func checkSectors(t *testing.T, sectors int, r spool.Ring, head, epoch, n int) {
	t.Helper()
	x := laid(t, sectors)
	want := make([][]byte, sectors)
	for at := range want {
		want[at] = bytes.Repeat([]byte{byte(0xa0 + at)}, 128)
		writes(t, x, at, want[at])
	}
	s := opens(t, x, r, head, epoch)
	b := text(n, epoch)
	appends(t, s, b, api.OK)
	stands(t, s, head, head+takes(n), r.Count-takes(n))
	sizes := slices.Repeat([]int{piece}, takes(n))
	sizes[len(sizes)-1] = n - piece*(len(sizes)-1)
	for _, p := range split(epoch, head, b, sizes...) {
		want[r.First+p.number%r.Count] = p.raw()
	}
	if got := all(t, x); got != string(bytes.Join(want, nil)) {
		t.Errorf("of %d bytes at %d, epoch %d, on %v: %x, want %x", n, head, epoch, r, got, want)
	}
	if x.Cached() != 0 {
		t.Error("it isn't flushed")
	}
	if all(t, x.Lose(nil)) != all(t, x) {
		t.Error("it isn't kept")
	}
	if epoch < epochs {
		opens(t, x, r, head, epoch+1, b)
	}
}

// The greatest record, and the first that is too great.
func TestP13_1GreatestRecord(t *testing.T) {
	x, r := laid(t, 4096), ring(0, 4096)
	s := opens(t, x, r, 100, 5)
	for _, n := range []int{most + 1, most + 48, most + 49, 1 << 20, 1 << 24} {
		appends(t, s, text(n, 1), api.ErrRange)
	}
	if x.Cached() != 0 || all(t, x) != all(t, laid(t, 4096)) {
		t.Error("what is refused is written")
	}
	stands(t, s, 100, 100, 4096)
	appends(t, s, text(most, 2), api.OK)
	stands(t, s, 100, 656, 4096-556)
	appends(t, s, text(most-1, 3), api.OK)
	b := read(t, x, 655)
	if string(b[11:16]) != "\x02\x2b\x02\x2c\x3c" {
		t.Errorf("the last sector: %x", b[:16])
	}
	opens(t, x, r, 100, 6, text(most, 2), text(most-1, 3))
}

// It is full when there aren't as many sectors free; what is too great goes
// ahead of it.
func TestP13_1Full(t *testing.T) {
	for count := 2; count < 9; count++ {
		for used := range count + 1 {
			x, r := laid(t, 12), ring(2, count)
			s := opens(t, x, r, 3, 7)
			var want []string
			for k := range used {
				want = append(want, text(k, k))
				appends(t, s, want[k], api.OK)
			}
			before, free := all(t, x), count-used
			x.Power(0)
			for _, n := range []int{piece*free + 1, piece * (free + 1), piece*free + 1000, most} {
				if n > 0 && takes(n) > free {
					appends(t, s, text(n, 9), api.ErrFull)
				}
			}
			appends(t, s, text(most+1, 9), api.ErrRange)
			if free == 0 {
				appends(t, s, "", api.ErrFull)
			}
			if x.Dark() || all(t, x) != before {
				t.Error("what is refused does a step")
			}
			stands(t, s, 3, 3+used, free)
			x.Power(steps)
			if free > 0 {
				want = append(want, text(piece*free, 5))
				appends(t, s, want[used], api.OK)
			}
			stands(t, s, 3, 3+count, 0)
			appends(t, s, "", api.ErrFull)
			opens(t, x, r, 3, 8, want...)
		}
	}
}

// What is cut is free, and numbers go on behind it.
func TestP13_1Cut(t *testing.T) {
	x, r := laid(t, 8), ring(1, 5)
	s := opens(t, x, r, 9, 1)
	s.Cut()
	stands(t, s, 9, 9, 5)
	appends(t, s, "a", api.OK)
	appends(t, s, text(200, 1), api.OK)
	stands(t, s, 9, 12, 2)
	before := all(t, x)
	s.Cut()
	stands(t, s, 12, 12, 5)
	s.Cut()
	stands(t, s, 12, 12, 5)
	if all(t, x) != before {
		t.Error("Cut writes")
	}
	opens(t, x, r, 9, 2, "a", text(200, 1)) // they stand there still
	opens(t, x, r, 12, 2)
	appends(t, s, text(540, 2), api.OK)
	stands(t, s, 12, 17, 0)
	appends(t, s, "", api.ErrFull)
	opens(t, x, r, 12, 2, text(540, 2))
	opens(t, x, r, 9, 2)
	s.Cut()
	appends(t, s, "b", api.OK)
	stands(t, s, 17, 18, 4)
	opens(t, x, r, 17, 2, "b")
	opens(t, x, r, 12, 2)
}

// Once a step was refused, nothing is written any more, whatever power there
// is.
func TestP13_1Dead(t *testing.T) {
	for power := range 4 { // three writes, and a flush
		x, r := laid(t, 8), ring(1, 6)
		s := opens(t, x, r, 4, 2)
		appends(t, s, "a", api.OK)
		x.Power(power)
		appends(t, s, text(300, 1), api.ErrDead)
		stands(t, s, 4, 5, 5)
		if !x.Dark() || x.Cached() != power {
			t.Errorf("Dark %v, Cached %d of %d", x.Dark(), x.Cached(), power)
		}
		before := all(t, x)
		for _, n := range []int{steps, 0, 2} {
			x.Power(n)
			for range 3 {
				appends(t, s, "b", api.ErrDead)
				appends(t, s, "", api.ErrDead)
				appends(t, s, text(most, 1), api.ErrFull)
				appends(t, s, text(most+1, 1), api.ErrRange)
			}
			if x.Dark() || x.Cached() != power || all(t, x) != before {
				t.Errorf("it goes on: Dark %v, Cached %d", x.Dark(), x.Cached())
			}
		}
		s.Cut()
		stands(t, s, 5, 5, 6)
		appends(t, s, "c", api.ErrDead)
		stands(t, s, 5, 5, 6)
		// Another spool of the same tray has its own.
		z := opens(t, x.Lose(nil), r, 4, 3, "a")
		appends(t, z, "d", api.OK)
	}
}

// What isn't a refused step leaves the spool as it is.
func TestP13_1OtherErrorsArentTheEnd(t *testing.T) {
	x, r := laid(t, 8), ring(1, 2)
	s := opens(t, x, r, 0, 1)
	appends(t, s, text(217, 1), api.ErrFull)
	appends(t, s, text(most+1, 1), api.ErrRange)
	appends(t, s, text(216, 1), api.OK)
	appends(t, s, "", api.ErrFull)
	s.Cut()
	appends(t, s, "a", api.OK)
	opens(t, x, r, 2, 2, "a")
}

// An Append does a step for each sector, in order, and one flush.
func TestP13_1AppendsSteps(t *testing.T) {
	for _, n := range []int{0, 1, 108, 109, 500, 648} {
		x, r := laid(t, 10), ring(2, 6)
		s := opens(t, x, r, 5, 1)
		x.Power(takes(n) + 1)
		appends(t, s, text(n, 1), api.OK)
		if x.Dark() || x.Flush() != api.ErrDead {
			t.Errorf("of %d bytes: not so many steps", n)
		}
		for power := range takes(n) + 1 {
			x := laid(t, 10)
			s := opens(t, x, r, 5, 1)
			x.Power(power)
			appends(t, s, text(n, 1), api.ErrDead)
			for k := range takes(n) {
				if b := read(t, x, 2+(5+k)%6); (b[0] == 0x53) != (k < power) {
					t.Errorf("of %d bytes, with %d steps: sector %d: %x", n, power, k, b[0])
				}
			}
		}
	}
}

// Each of a tray's writes is whole: what an earlier record left behind is
// noughts again.
func TestP13_1RoundAndRound(t *testing.T) {
	x, r := laid(t, 9), ring(2, 5)
	s := opens(t, x, r, 0, 1)
	tail := 0
	for k := range 400 {
		b := text(k*37%541, k)
		for s.Room() < takes(len(b)) {
			appends(t, s, b, api.ErrFull)
			s.Cut()
		}
		appends(t, s, b, api.OK)
		tail += takes(len(b))
		if s.Tail() != tail || s.Room() != 5-(tail-s.Head()) {
			t.Fatalf("Tail %d, Room %d, want %d", s.Tail(), s.Room(), tail)
		}
		_, l, _ := spool.Open(x, r, s.Head(), 2)
		if len(l) == 0 || string(l[len(l)-1]) != b {
			t.Fatalf("record %d isn't found behind the others: %q", k, brief(texts(l)))
		}
		opens(t, x, r, tail-takes(len(b)), 2, b)
	}
	if !strings.HasPrefix(all(t, x), strings.Repeat("\x00", 2*128)) || !strings.HasSuffix(all(t, x), strings.Repeat("\x00", 2*128)) {
		t.Error("sectors that aren't the ring's are written")
	}
}
