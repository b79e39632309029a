package bundle

// crc32 tells the text's CRC-32.
func crc32(s string) uint32 {
	const polynomial = 0xEDB88320
	state := ^uint32(0)
	for i := range len(s) {
		state ^= uint32(s[i])
		for range 8 {
			low := state & 1
			state >>= 1
			if low == 1 {
				state ^= polynomial
			}
		}
	}
	return ^state
}
