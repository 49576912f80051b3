// Package octet writes numbers over bytes, the highest byte first, as they stand on sectors.
package octet

// Put writes a number over all of b: its lowest bytes, as many as b has.
func Put(b []byte, n int) {
	for k := range b {
		b[len(b)-1-k] = byte(n >> (8 * k))
	}
}

// Take is the number that Put wrote.
func Take(b []byte) int {
	n := 0
	for _, x := range b {
		n = n<<8 | int(x)
	}
	return n
}
