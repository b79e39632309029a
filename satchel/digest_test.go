package satchel_test

import (
	"crypto/sha256"
	"encoding/hex"
	"math/rand"
	"strings"
	"testing"

	"satchel/satchel"
)

// libraryDigest is the SHA-256 of Go's library, to hold the program's own against.
func libraryDigest(s string) string {
	sum := sha256.Sum256([]byte(s))
	return hex.EncodeToString(sum[:])
}

func checkDigest(t *testing.T, s string, want string) {
	t.Helper()
	if got := satchel.Digest(s); got != want {
		t.Errorf("P4: Digest(%.40q, %d bytes) = %q, want %q", s, len(s), got, want)
	}
}

func TestDigestKnown(t *testing.T) {
	for _, c := range []struct{ text, sum string }{
		{"", "e3b0c44298fc1c149afbf4c8996fb92427ae41e4649b934ca495991b7852b855"},
		{"abc", "ba7816bf8f01cfea414140de5dae2223b00361a396177a9cb410ff61f20015ad"},
		{"abcdbcdecdefdefgefghfghighijhijkijkljklmklmnlmnomnopnopq", "248d6a61d20638b8e5c026930c3e6039a33ce45964ff2167f6ecedd419db06c1"},
		{strings.Repeat("a", 1000000), "cdc76e5c9914fb9281a1c7e284d73e67f1809a48a497200e046d39ccc7112cd0"},
	} {
		checkDigest(t, c.text, c.sum)
	}
}

func TestDigestOfEveryLength(t *testing.T) {
	source := rand.New(rand.NewSource(1))
	for length := range 400 {
		b := make([]byte, length)
		source.Read(b)
		for _, s := range []string{string(b), strings.Repeat("\x00", length), strings.Repeat("\xff", length), strings.Repeat("\x80", length)} {
			checkDigest(t, s, libraryDigest(s))
		}
	}
}

func TestDigestOfEveryByte(t *testing.T) {
	for c := range 256 {
		s := string([]byte{byte(c)})
		checkDigest(t, s, libraryDigest(s))
	}
}

func TestDigestLongTexts(t *testing.T) {
	for _, s := range longTexts() {
		checkDigest(t, s, libraryDigest(s))
	}
}
