package info

import (
	"errors"
	"testing"

	"satchel/api"
	"satchel/fault"
	"satchel/names"
)

// The promise is tested at the face (package satchel); here: what the errors wrap.

func TestFaultsWrapReasons(t *testing.T) {
	for _, c := range []struct {
		text   string
		reason error
	}{
		{"", errEnd},
		{"{", errEnd},
		{`{"a`, errEnd},
		{`{"a\`, errEnd},
		{`{"a":-`, errEnd},
		{`{"a":tru`, errEnd},
		{"[", errByte},
		{`{"a":x`, errByte},
		{`{"a":-x`, errByte},
		{`{"\u`, errByte},
		{"{}{", errByte},
		{`{"a":01}`, errNumber},
		{`{"a":1234567890}`, errNumber},
		{`{"a":1,"a":1}`, errTwice},
		{"{}", errNoVersion},
		{`{"Version":1}`, errNoVersion},
		{`{"Version":"1"}`, names.ErrVersion},
	} {
		about, err := Read(c.text)
		var f *fault.Fault
		if about != (api.About{}) || !errors.As(err, &f) || f.What != ErrInfo || !errors.Is(err, c.reason) {
			t.Errorf("Read(%q) = %v, %v, want %v: %v", c.text, about, err, ErrInfo, c.reason)
		}
	}
}
