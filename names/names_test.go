package names

import (
	"errors"
	"strings"
	"testing"

	"satchel/fault"
)

// The promises are tested at the face (package satchel); here: what the errors wrap, and what no call hands out as it is.

func TestErrorsWrapWhy(t *testing.T) {
	escape := func(s string) error { _, err := Escape(s); return err }
	unescape := func(s string) error { _, err := Unescape(s); return err }
	compareRight := func(s string) error { _, err := Compare("v1.0.0", s); return err }
	compareLeft := func(s string) error { _, err := Compare(s, "v1.0.0"); return err }
	for _, c := range []struct {
		call      func(string) error
		text      string
		what, why error
	}{
		{CheckName, "", ErrName, errEmpty},
		{CheckName, strings.Repeat("a", 61), ErrName, errLong},
		{CheckName, "a!b", ErrName, errByte},
		{CheckName, "a/.b", ErrName, errDot},
		{CheckVersion, "1.0.0", ErrVersion, errShape},
		{CheckVersion, "v1.0", ErrVersion, errShape},
		{CheckVersion, "v1..0", ErrVersion, errEmpty},
		{CheckVersion, "v1.0.x", ErrVersion, errByte},
		{CheckVersion, "v1.0.00", ErrVersion, errZero},
		{CheckVersion, "v1.0.1234567890", ErrVersion, errLong},
		{CheckVersion, "v1.0.0-a..b", ErrVersion, errEmpty},
		{CheckVersion, "v1.0.0-_", ErrVersion, errByte},
		{CheckVersion, "v1.0.0-01", ErrVersion, errZero},
		{compareRight, "v1.0.0-", ErrVersion, errEmpty},
		{compareLeft, "v1.0.0-", ErrVersion, errEmpty},
		{escape, "a!", ErrName, errByte},
		{unescape, "A", ErrName, errEscape},
		{unescape, "a!", ErrName, errEscape},
	} {
		err := c.call(c.text)
		var f *fault.Fault
		if !errors.As(err, &f) || f.What != c.what || !errors.Is(err, c.why) {
			t.Errorf("%.40q: got %v, want %v: %v", c.text, err, c.what, c.why)
		}
	}
}

func TestLatest(t *testing.T) {
	for _, c := range []struct{ rising, want string }{
		{"", ""},
		{"v1.0.0", "v1.0.0"},
		{"v1.0.0-a", "v1.0.0-a"},
		{"v1.0.0-a v1.0.0-b", "v1.0.0-b"},
		{"v1.0.0 v2.0.0", "v2.0.0"},
		{"v1.0.0-a v1.0.0 v2.0.0-a v2.0.0-b", "v1.0.0"},
		{"v0.1.0 v1.0.0-a v1.0.0 v2.0.0-a", "v1.0.0"},
	} {
		if got := Latest(strings.Fields(c.rising)); got != c.want {
			t.Errorf("Latest(%q) = %q, want %q", c.rising, got, c.want)
		}
	}
}
