package hoard

import (
	"slices"

	"stile/api"
	"stile/spool"
	"stile/tray"
)

// How a tray is divided.
const (
	fewestSectors = 64
	marks         = 2
	fields        = 2
	quarters      = 4 // of what is behind the marks; a field is one of them
)

// disk is a tray that is divided: marks, fields, ring.
type disk struct {
	*tray.Tray
	size int // how many sectors a field has
}

// divide: a tray that is to have a hoard, if it has sectors enough.
func divide(t *tray.Tray) (disk, bool) {
	if t.Sectors() < fewestSectors {
		return disk{}, false
	}
	return disk{t, (t.Sectors() - marks) / quarters}, true
}

// most: how many bytes an image may have.
func (d disk) most() int { return d.size * api.Sector }

// first: a field's first sector.
func (d disk) first(f int) int { return marks + f*d.size }

// ring: what is behind the fields.
func (d disk) ring() spool.Ring {
	at := d.first(fields)
	return spool.Ring{First: at, Count: d.Sectors() - at}
}

// mark: the one that counts, if there is one.
func (d disk) mark() (mark, bool) {
	var counts mark
	found := false
	for at := range marks {
		if m, ok := d.markOn(at); ok && (!found || m[turn] > counts[turn]) {
			counts, found = m, true
		}
	}
	return counts, found
}

// markOn: the mark on a sector, if one stands there that must stand there.
func (d disk) markOn(at int) (mark, bool) {
	b, e := d.Read(at)
	if e != api.OK {
		return mark{}, false
	}
	m, ok := readMark([api.Sector]byte(b))
	return m, ok && m.place() == at
}

// set sets a mark. Not ok: a step was refused.
func (d disk) set(m mark) bool {
	b := m.sector()
	return d.Write(m.place(), b[:]) == api.OK && d.Flush() == api.OK
}

// keep writes an image to the field of a mark, and then sets the mark: till
// then the image ahead counts. Not ok: a step was refused.
func (d disk) keep(image []byte, m mark) bool {
	at := d.first(m[field])
	for b := range slices.Chunk(image, api.Sector) {
		if d.Write(at, b) != api.OK {
			return false
		}
		at++
	}
	return d.Flush() == api.OK && d.set(m)
}

// image: the one that a mark tells of.
func (d disk) image(m mark) []byte {
	var b []byte
	for at := d.first(m[field]); len(b) < m[length]; at++ {
		sector, e := d.Read(at)
		if e != api.OK {
			break
		}
		b = append(b, sector[:min(api.Sector, m[length]-len(b))]...)
	}
	return b
}
