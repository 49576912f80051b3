package octet_test

import (
	"encoding/binary"
	"math"
	"slices"
	"testing"

	"stile/octet"
)

func TestNumbersAsBytes(t *testing.T) {
	for _, n := range []int{0, 1, 255, 256, 0x0102030405060708, 1<<40 - 1, 1 << 48, math.MaxInt} {
		whole := binary.BigEndian.AppendUint64(nil, uint64(n))
		for size := range 9 {
			b := slices.Repeat([]byte{0xaa}, size+1)
			octet.Put(b[:size], n)
			if low := whole[8-size:]; !slices.Equal(b[:size], low) || b[size] != 0xaa {
				t.Errorf("Put(%x) over %d bytes: %x, want %x", n, size, b, low)
			}
			if got, want := octet.Take(b[:size]), n&(1<<(8*size)-1); got != want {
				t.Errorf("Take(%x): %x, want %x", b[:size], got, want)
			}
		}
	}
}
