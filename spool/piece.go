package spool

import (
	"stile/api"
	"stile/octet"
)

// Where on a sector its parts begin.
const (
	epochAt  = 1
	numberAt = 5
	partAt   = 11
	partsAt  = 13
	sizeAt   = 15
	bytesAt  = 16
	sumAt    = api.Sector - 4
)

const (
	sign      = 0x53 // a sector's first byte
	mostPiece = sumAt - bytesAt
	firstSum  = 0xFFFFFFFF
	turn      = 0x04C11DB7
)

// place: of which epoch and number a piece is, and which of how many.
type place struct {
	epoch, number int
	part, parts   int
}

// piece is what one sector has of a record.
type piece struct {
	place
	bytes []byte
}

// partsOf: how many sectors so many bytes take.
func partsOf(bytes int) int { return max(1, (bytes+mostPiece-1)/mostPiece) }

// sector is the piece as it must stand.
func (p piece) sector() [api.Sector]byte {
	var b [api.Sector]byte
	b[0] = sign
	octet.Put(b[epochAt:numberAt], p.epoch)
	octet.Put(b[numberAt:partAt], p.number)
	octet.Put(b[partAt:partsAt], p.part)
	octet.Put(b[partsAt:sizeAt], p.parts)
	octet.Put(b[sizeAt:bytesAt], len(p.bytes))
	copy(b[bytesAt:sumAt], p.bytes)
	octet.Put(b[sumAt:], int(Sum(b[:sumAt])))
	return b
}

// readPiece: the piece that stands on a sector, if it stands as it must.
func readPiece(b [api.Sector]byte) (piece, bool) {
	size := octet.Take(b[sizeAt:bytesAt])
	if size > mostPiece {
		return piece{}, false
	}
	at := place{
		epoch:  octet.Take(b[epochAt:numberAt]),
		number: octet.Take(b[numberAt:partAt]),
		part:   octet.Take(b[partAt:partsAt]),
		parts:  octet.Take(b[partsAt:sizeAt]),
	}
	p := piece{at, b[bytesAt : bytesAt+size : bytesAt+size]}
	// Sign, noughts and sum are looked at by making the sector again.
	return p, p.sector() == b
}

// Sum: of bytes.
func Sum(b []byte) uint32 {
	c := uint32(firstSum)
	for _, x := range b {
		for k := range 8 {
			left, bit := byte(c>>31), x>>(7-k)&1
			c <<= 1
			if left != bit {
				c ^= turn
			}
		}
	}
	return c
}
