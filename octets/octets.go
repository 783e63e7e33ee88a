// Package octets is numbers as bytes, the high one first: what stands on a disk and in a script.
package octets

// Put adds a number's bytes, so many of them. Of a number below 0 they are its bits.
func Put(b []byte, n, size int) []byte {
	for i := size - 1; i >= 0; i-- {
		b = append(b, byte(n>>(8*i)))
	}
	return b
}

// Get is the number of some bytes, none below 0.
func Get(b []byte) int {
	n := 0
	for _, c := range b {
		n = n<<8 | int(c)
	}
	return n
}
