package bundle

import (
	"errors"
	"testing"

	"satchel/api"
	"satchel/deflate"
	"satchel/fault"
	"satchel/names"
)

func TestCRC(t *testing.T) {
	for s, want := range map[string]uint32{"": 0, "a": 0xE8B7BE43, "123456789": 0xCBF43926, "\x00": 0xD202EF8D, "\xff\xff\xff\xff": 0xFFFFFFFF} {
		if got := crc32(s); got != want {
			t.Errorf("P5: the CRC-32 of %q = %x, want %x", s, got, want)
		}
	}
}

func TestFaultsWrapReasons(t *testing.T) {
	for _, c := range []struct {
		kind                int
		body, name, version string
		what, reason        error
	}{
		{0, "", "", "", fault.ErrArg, fault.ErrArg},
		{api.Head, "", "", "", names.ErrName, names.ErrName},
		{api.Head, "", "x", "", names.ErrVersion, names.ErrVersion},
		{api.Archive, "", "", "", names.ErrName, names.ErrName},
		{api.Archive, "", "x", "", names.ErrVersion, names.ErrVersion},
		{api.Archive, "", "x", "v1.0.0", ErrBundle, errFiles},
		{api.Archive, partMark, "x", "v1.0.0", ErrBundle, errShort},
		{api.Archive, partMark + "\x00\x00\x01\x00", "x", "v1.0.0", ErrBundle, errNumber},
		{api.Archive, partMark + string(make([]byte, 26)) + "PK\x01\x03", "x", "v1.0.0", ErrBundle, errMark},
	} {
		sum, err := Sum(c.kind, c.body, c.name, c.version)
		if sum != "" || !errors.Is(err, c.what) || !errors.Is(err, c.reason) {
			t.Errorf("Sum(%d, %q, %q, %q) = %q, %v, want %v: %v", c.kind, c.body, c.name, c.version, sum, err, c.what, c.reason)
		}
	}
}

func TestFaultsWrapFaultsBelow(t *testing.T) {
	const name = "x@v1.0.0/a"
	told := "\x08\x00" + "time" + "\x00\x00\x00\x00" + "\x01\x00\x00\x00" + "\x00\x00\x00\x00" + "\x0a\x00"
	part := partMark + "\x00\x00" + "\x00\x00" + told + "\x00\x00" + name + "\x07"
	entry := entryMark + "many" + "\x00\x00" + told + string(make([]byte, 6)) + "others" + "\x00\x00\x00\x00" + name
	end := endMark + "\x00\x00\x00\x00\x01\x00\x01\x00\x38\x00\x00\x00\x29\x00\x00\x00\x00\x00"
	_, err := Unpack(part+entry+end, "x", "v1.0.0")
	if !errors.Is(err, ErrBundle) || !errors.Is(err, deflate.ErrDeflate) {
		t.Errorf("Unpack = %v, want ErrBundle that wraps ErrDeflate", err)
	}
}
