package lock

// polynomial is that of CRC-32, its lowest power in the highest bit.
const polynomial = 0xEDB88320

// Sum returns the CRC-32 of the bytes of s.
func Sum(s string) uint32 {
	rest := ^uint32(0)
	for i := range len(s) {
		rest = divided(rest ^ uint32(s[i]))
	}
	return ^rest
}

// divided takes the eight bits of a byte out of the rest, one by one: for texts
// as short as a lockfile's, a table of bytes would save next to nothing.
func divided(rest uint32) uint32 {
	for range 8 {
		out := rest & 1
		rest >>= 1
		if out == 1 {
			rest ^= polynomial
		}
	}
	return rest
}
