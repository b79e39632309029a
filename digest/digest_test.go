package digest

import (
	"encoding/binary"
	"strings"
	"testing"
)

// The length in bits has 8 bytes, of which texts that a test can make need few.
func TestPadTellsLengthInBits(t *testing.T) {
	for rest := range blockBytes {
		for _, blocks := range []uint64{0, 1, 1 << 20, 1<<26 - 1, 1 << 40, 1<<55 - 1} {
			length := blocks*blockBytes + uint64(rest)
			padded := pad(strings.Repeat("x", rest), length)
			if len(padded)%blockBytes != 0 || len(padded) > 2*blockBytes || len(padded) < rest+1+lengthBytes {
				t.Errorf("%d bytes are filled up to %d", rest, len(padded))
				continue
			}
			at := len(padded) - lengthBytes
			if want := strings.Repeat("x", rest) + "\x80" + strings.Repeat("\x00", at-rest-1); padded[:at] != want {
				t.Errorf("%d bytes are filled up with %q", rest, padded[rest:at])
			}
			if bits := binary.BigEndian.Uint64([]byte(padded[at:])); bits != length*8 {
				t.Errorf("%d bytes are told as %d bits", length, bits)
			}
		}
	}
}
