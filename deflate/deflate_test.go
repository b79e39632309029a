package deflate

import (
	"errors"
	"testing"

	"satchel/fault"
)

func TestFaultsWrapReasons(t *testing.T) {
	for _, c := range []struct {
		text   string
		most   int
		what   error
		reason error
	}{
		{"\x03\x00", -1, fault.ErrArg, errMost},
		{"\x03\x00", 8001, fault.ErrArg, errMost},
		{"", 9, ErrDeflate, errShort},
		{"\x4b\x04", 9, ErrDeflate, errShort},
		{"\x01\x03\x00\xfc\xffab", 9, ErrDeflate, errShort},
		{"\x03\x00\x00", 9, ErrDeflate, errBehind},
		{"\x03\x80", 9, ErrDeflate, errBehind},
		{"\x07", 9, ErrDeflate, errKind},
		{"\x01\x03\x00\xfd\xffabc", 9, ErrDeflate, errStored},
		{"\xfd\x00\x00", 9, ErrDeflate, errTooMany},
		{"\x05\x1f\x00", 9, ErrDeflate, errTooMany},
		{"\x05\x00\x00\x00\x00", 9, ErrDeflate, errLengths},
		{"\x05\xe0\x93\x00\x00\x00\x00\x00\x00\x00\x00", 9, ErrDeflate, errLengths},
		{"\x1b\x03", 9, ErrDeflate, errCode},
		{"\x03\x02", 9, ErrDeflate, errDistance},
		{"\x01\x03\x00\xfc\xffabc", 2, ErrDeflate, errLong},
	} {
		plain, err := Inflate(c.text, c.most)
		if plain != "" || !errors.Is(err, c.what) || !errors.Is(err, c.reason) {
			t.Errorf("Inflate(%q, %d) = %q, %v, want %v: %v", c.text, c.most, plain, err, c.what, c.reason)
		}
	}
}
