package hoard

import (
	"stile/api"
	"stile/octet"
	"stile/spool"
)

// A mark's numbers, in the order in which they stand on its sector.
const (
	turn   = iota
	epoch  // of the spool behind it
	field  // the one that counts
	length // how many bytes the image has
	head   // the ring's
	numbers
)

// How a mark stands on its sector.
const (
	sign  = 0x4d // its first byte
	wide  = 6    // bytes of each number
	sumAt = api.Sector - 4
)

// mark is an array, so that one that is kept, or made of another, is a copy.
type mark [numbers]int

// place: the sector where it must stand.
func (m mark) place() int { return m[turn] % marks }

// next: what is behind it, but for its turn, the same.
func (m mark) next() mark {
	m[turn]++
	return m
}

// sector is the mark as it must stand.
func (m mark) sector() [api.Sector]byte {
	var b [api.Sector]byte
	b[0] = sign
	for k, n := range m {
		octet.Put(b[1+k*wide:1+(k+1)*wide], n)
	}
	octet.Put(b[sumAt:], int(spool.Sum(b[:sumAt])))
	return b
}

// readMark: the mark that stands on a sector, if it stands as it must.
func readMark(b [api.Sector]byte) (mark, bool) {
	var m mark
	for k := range m {
		m[k] = octet.Take(b[1+k*wide : 1+(k+1)*wide])
	}
	// Sign, noughts and sum are looked at by making the sector again.
	return m, m.sector() == b
}
