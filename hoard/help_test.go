package hoard_test

import (
	"encoding/binary"
	"hash/crc32"
	"math/bits"
	"slices"
	"testing"

	"stile/api"
	"stile/hoard"
	"stile/tray"
)

const (
	most   = 60_000 // bytes of a record
	steps  = 1 << 40
	epochs = 1<<32 - 1
	six    = 1<<48 - 1 // the greatest number of six bytes
)

// laid is a new tray of so many sectors.
func laid(t *testing.T, sectors int) *tray.Tray {
	t.Helper()
	x, e := tray.New(sectors)
	if e != api.OK {
		t.Fatalf("tray.New(%d): %d", sectors, e)
	}
	return x
}

func power(t *testing.T, x *tray.Tray, n int) {
	t.Helper()
	if e := x.Power(n); e != api.OK {
		t.Fatalf("Power(%d): %d", n, e)
	}
}

func lays(t *testing.T, x *tray.Tray, image string) *hoard.Hoard {
	t.Helper()
	h, e := hoard.Lay(x, []byte(image))
	if h == nil || e != api.OK {
		t.Fatalf("Lay of %d bytes: %v, %d", len(image), h, e)
	}
	return h
}

func laysNot(t *testing.T, x *tray.Tray, image string, want api.Errno) {
	t.Helper()
	if h, e := hoard.Lay(x, []byte(image)); h != nil || e != want {
		t.Errorf("Lay of %d bytes: %v, %d, want %d", len(image), h, e, want)
	}
}

// opens opens a hoard that has just this image, and these records.
func opens(t *testing.T, x *tray.Tray, image string, records ...string) *hoard.Hoard {
	t.Helper()
	h, b, l, e := hoard.Open(x)
	if h == nil || e != api.OK {
		t.Fatalf("Open: %v, %d", h, e)
	}
	if string(b) != image {
		t.Fatalf("Open: an image of %d bytes, %q, want %d, %q", len(b), brief(string(b)), len(image), brief(image))
	}
	if !slices.Equal(texts(l), records) {
		t.Fatalf("Open: %q, want %q", briefs(texts(l)), briefs(records))
	}
	return h
}

func opensNot(t *testing.T, x *tray.Tray, want api.Errno) {
	t.Helper()
	if h, b, l, e := hoard.Open(x); h != nil || len(b) != 0 || len(l) != 0 || e != want {
		t.Errorf("Open: %v, %q, %q, %d, want %d", h, b, l, e, want)
	}
}

func keeps(t *testing.T, h *hoard.Hoard, record string, want api.Errno) {
	t.Helper()
	if e := h.Keep([]byte(record)); e != want {
		t.Errorf("Keep of %d bytes: %d, want %d", len(record), e, want)
	}
}

func images(t *testing.T, h *hoard.Hoard, image string, want api.Errno) {
	t.Helper()
	if e := h.Image([]byte(image)); e != want {
		t.Errorf("Image of %d bytes: %d, want %d", len(image), e, want)
	}
}

func has(t *testing.T, h *hoard.Hoard, room, bytes int) {
	t.Helper()
	if h.Room() != room || h.Most() != bytes {
		t.Errorf("Room %d, Most %d, want %d, %d", h.Room(), h.Most(), room, bytes)
	}
}

func writes(t *testing.T, x *tray.Tray, at int, b string) {
	t.Helper()
	if e := x.Write(at, []byte(b)); e != api.OK {
		t.Fatalf("Write(%d): %d", at, e)
	}
}

func read(t *testing.T, x *tray.Tray, at int) string {
	t.Helper()
	b, e := x.Read(at)
	if e != api.OK {
		t.Fatalf("Read(%d): %d", at, e)
	}
	return string(b)
}

// all is each sector of a tray, as it is read.
func all(t *testing.T, x *tray.Tray) []string {
	t.Helper()
	var l []string
	for at := range x.Sectors() {
		l = append(l, read(t, x, at))
	}
	return l
}

// reads: has a tray just these sectors, and are they kept?
func reads(t *testing.T, x *tray.Tray, want []string) {
	t.Helper()
	for _, y := range []*tray.Tray{x, x.Lose(nil)} {
		for at, got := range all(t, y) {
			if got != want[at] {
				t.Fatalf("sector %d: %x, want %x", at, got, want[at])
			}
		}
	}
}

// littered is a tray on which something stands, but no marks, and its sectors.
func littered(t *testing.T, sectors int) (*tray.Tray, []string) {
	t.Helper()
	x := laid(t, sectors)
	for at := range sectors {
		writes(t, x, at, text(api.Sector, at))
	}
	if e := x.Flush(); e != api.OK {
		t.Fatalf("Flush: %d", e)
	}
	return x, all(t, x)
}

// plan is where the parts of a hoard stand, counted out by the chapter's
// words.
type plan struct {
	fields [2]int // the first sector of each
	size   int    // sectors of a field
	ring   int
	count  int
}

func planOf(sectors int) plan {
	size := 0
	for 4*(size+1) <= sectors-2 {
		size++
	}
	return plan{fields: [2]int{2, 2 + size}, size: size, ring: 2 + size + size, count: sectors - 2 - size - size}
}

// mark is a mark, number by number.
type mark struct {
	turn, epoch, field, bytes, head int
}

// raw is a mark as a sector.
func (m mark) raw() string { return m.odd(0x4d, "") }

// odd is a mark as a sector with such a first byte, and such bytes where the
// noughts must stand; but its sum is right.
func (m mark) odd(first byte, rest string) string {
	b := []byte{first}
	for _, n := range []int{m.turn, m.epoch, m.field, m.bytes, m.head} {
		b = binary.BigEndian.AppendUint16(b, uint16(n>>32))
		b = binary.BigEndian.AppendUint32(b, uint32(n))
	}
	b = append(b, rest...)
	return summed(string(b))
}

// piece is one sector of a record.
func piece(epoch, number, part, parts int, b string) string {
	s := []byte{0x53}
	s = binary.BigEndian.AppendUint32(s, uint32(epoch))
	s = binary.BigEndian.AppendUint16(s, uint16(number>>32))
	s = binary.BigEndian.AppendUint32(s, uint32(number))
	s = binary.BigEndian.AppendUint16(s, uint16(part))
	s = binary.BigEndian.AppendUint16(s, uint16(parts))
	s = append(s, byte(len(b)))
	return summed(string(s) + b)
}

// summed is a sector with its sum, which is made by way of the library's,
// whose bits stand the other way round and are turned at the end.
func summed(s string) string {
	b := make([]byte, api.Sector-4)
	copy(b, s)
	turned := make([]byte, len(b))
	for k, x := range b {
		turned[k] = bits.Reverse8(x)
	}
	return string(binary.BigEndian.AppendUint32(b, bits.Reverse32(^crc32.ChecksumIEEE(turned))))
}

// full is a sector of these bytes, and noughts.
func full(b string) string { return b + string(make([]byte, api.Sector-len(b))) }

// takes is how many sectors so many bytes take, with so many on each.
func takes(n, each int) int { return n/each + min(n%each, 1) }

// recordTakes is how many of the ring's sectors a record takes.
func recordTakes(b string) int { return max(1, takes(len(b), 108)) }

// imageTakes is how many of a field's sectors an image takes.
func imageTakes(b string) int { return takes(len(b), api.Sector) }

// puts puts an image to its field's sectors.
func (p plan) puts(sectors []string, field int, image string) {
	for k := 0; len(image) > 0; k++ {
		n := min(len(image), api.Sector)
		sectors[p.fields[field]+k] = full(image[:n])
		image = image[n:]
	}
}

// text is so many bytes, each place and each seed with another one, noughts
// among them.
func text(n, seed int) string {
	b := make([]byte, n)
	for k := range b {
		b[k] = byte(k*7 + k/251 + seed*13)
	}
	return string(b)
}

// texts are records as texts.
func texts(l [][]byte) []string {
	var s []string
	for _, b := range l {
		s = append(s, string(b))
	}
	return s
}

func brief(s string) string {
	if len(s) > 12 {
		return s[:12] + ".."
	}
	return s
}

func briefs(l []string) []string {
	var s []string
	for _, x := range l {
		s = append(s, brief(x))
	}
	return s
}
