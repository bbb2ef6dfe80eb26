// Package crc has CRC-32.
package crc

// polynomial is that of IEEE 802.3, its digits mirrored: each byte goes in lowest digit first.
const polynomial = 0xEDB88320

// width is how many bytes a sum has.
const width = 4

// Step is the sum c, not yet turned, taken on by the byte b.
func Step(c uint32, b byte) uint32 {
	c ^= uint32(b)
	for range 8 {
		odd := c&1 == 1
		c >>= 1
		if odd {
			c ^= polynomial
		}
	}
	return c
}

// Sum is the CRC-32 of all the texts, one behind the other.
func Sum(l ...string) uint32 {
	c := ^uint32(0)
	for _, s := range l {
		for i := range len(s) {
			c = Step(c, s[i])
		}
	}
	return ^c
}

// Put is the four bytes of c, the lowest first.
func Put(c uint32) string {
	return string([]byte{byte(c), byte(c >> 8), byte(c >> 16), byte(c >> 24)})
}

// Get is the number whose Put stands in b at the place at; false if none does.
func Get(b string, at int) (uint32, bool) {
	// The difference cannot run over where at is not below 0, as at+width might.
	if at < 0 || len(b)-at < width {
		return 0, false
	}
	return uint32(b[at]) | uint32(b[at+1])<<8 | uint32(b[at+2])<<16 | uint32(b[at+3])<<24, true
}
