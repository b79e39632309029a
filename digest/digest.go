// Package digest: SHA-256, as in FIPS 180-4.
package digest

import "math/bits"

const (
	blockBytes  = 64
	lengthBytes = 8
)

// start holds the first 32 bits behind the point of the square roots of the first 8 primes.
var start = [8]uint32{
	0x6a09e667, 0xbb67ae85, 0x3c6ef372, 0xa54ff53a, 0x510e527f, 0x9b05688c, 0x1f83d9ab, 0x5be0cd19,
}

// rounds holds the first 32 bits behind the point of the cube roots of the first 64 primes.
var rounds = [64]uint32{
	0x428a2f98, 0x71374491, 0xb5c0fbcf, 0xe9b5dba5, 0x3956c25b, 0x59f111f1, 0x923f82a4, 0xab1c5ed5,
	0xd807aa98, 0x12835b01, 0x243185be, 0x550c7dc3, 0x72be5d74, 0x80deb1fe, 0x9bdc06a7, 0xc19bf174,
	0xe49b69c1, 0xefbe4786, 0x0fc19dc6, 0x240ca1cc, 0x2de92c6f, 0x4a7484aa, 0x5cb0a9dc, 0x76f988da,
	0x983e5152, 0xa831c66d, 0xb00327c8, 0xbf597fc7, 0xc6e00bf3, 0xd5a79147, 0x06ca6351, 0x14292967,
	0x27b70a85, 0x2e1b2138, 0x4d2c6dfc, 0x53380d13, 0x650a7354, 0x766a0abb, 0x81c2c92e, 0x92722c85,
	0xa2bfe8a1, 0xa81a664b, 0xc24b8b70, 0xc76c51a3, 0xd192e819, 0xd6990624, 0xf40e3585, 0x106aa070,
	0x19a4c116, 0x1e376c08, 0x2748774c, 0x34b0bcb5, 0x391c0cb3, 0x4ed8aa4a, 0x5b9cca4f, 0x682e6ff3,
	0x748f82ee, 0x78a5636f, 0x84c87814, 0x8cc70208, 0x90befffa, 0xa4506ceb, 0xbef9a3f7, 0xc67178f2,
}

// Of tells the SHA-256 of the text, as 64 small hexadecimal digits.
func Of(s string) string {
	state := start
	rest := s
	for len(rest) >= blockBytes {
		state = mix(state, rest[:blockBytes])
		rest = rest[blockBytes:]
	}
	// Only the rest is copied: the text may be long.
	for rest = pad(rest, uint64(len(s))); rest != ""; rest = rest[blockBytes:] {
		state = mix(state, rest[:blockBytes])
	}
	return hexadecimal(state)
}

// pad fills the text's last bytes up to whole blocks, of which the last ends with the text's length in bits.
func pad(rest string, length uint64) string {
	padded := append([]byte(rest), 0x80)
	for len(padded)%blockBytes != blockBytes-lengthBytes {
		padded = append(padded, 0)
	}
	for shift := 56; shift >= 0; shift -= 8 {
		padded = append(padded, byte(length*8>>shift))
	}
	return string(padded)
}

// mix tells the state behind one more block.
func mix(state [8]uint32, block string) [8]uint32 {
	words := spread(block)
	a, b, c, d, e, f, g, h := state[0], state[1], state[2], state[3], state[4], state[5], state[6], state[7]
	for i, word := range words {
		turned := bits.RotateLeft32(e, -6) ^ bits.RotateLeft32(e, -11) ^ bits.RotateLeft32(e, -25)
		chosen := e&f ^ ^e&g
		first := h + turned + chosen + rounds[i] + word
		turned = bits.RotateLeft32(a, -2) ^ bits.RotateLeft32(a, -13) ^ bits.RotateLeft32(a, -22)
		most := a&b ^ a&c ^ b&c
		a, b, c, d, e, f, g, h = first+turned+most, a, b, c, d+first, e, f, g
	}
	for i, word := range [8]uint32{a, b, c, d, e, f, g, h} {
		state[i] += word
	}
	return state
}

// spread makes the words of the 64 rounds from a block.
func spread(block string) [64]uint32 {
	var words [64]uint32
	for i := range 16 {
		b := block[4*i : 4*i+4]
		words[i] = uint32(b[0])<<24 | uint32(b[1])<<16 | uint32(b[2])<<8 | uint32(b[3])
	}
	for i := 16; i < 64; i++ {
		x, y := words[i-15], words[i-2]
		x = bits.RotateLeft32(x, -7) ^ bits.RotateLeft32(x, -18) ^ x>>3
		y = bits.RotateLeft32(y, -17) ^ bits.RotateLeft32(y, -19) ^ y>>10
		words[i] = words[i-16] + x + words[i-7] + y
	}
	return words
}

func hexadecimal(state [8]uint32) string {
	const digits = "0123456789abcdef"
	var text []byte
	for _, word := range state {
		for shift := 28; shift >= 0; shift -= 4 {
			text = append(text, digits[word>>shift&15])
		}
	}
	return string(text)
}
