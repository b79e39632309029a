package mirrors

import (
	"errors"
	"slices"
	"testing"

	"satchel/fault"
)

// What is a list is tested at the face (package satchel); here: what it says, and what the errors wrap.

func TestEntries(t *testing.T) {
	for list, want := range map[string][]Entry{
		"a":          {{Name: "a"}},
		"a,b":        {{Name: "a"}, {Name: "b"}},
		"a|b":        {{Name: "a", Passes: true}, {Name: "b"}},
		"a|off,c.1":  {{Name: "a", Passes: true}, {Name: "off"}, {Name: "c.1"}},
		"a,direct|c": {{Name: "a"}, {Name: "direct", Passes: true}, {Name: "c"}},
	} {
		if got, err := Parse(list); err != nil || !slices.Equal(got, want) {
			t.Errorf("Parse(%q) = %v, %v, want %v", list, got, err, want)
		}
	}
}

func TestErrorsWrapWhy(t *testing.T) {
	for list, reason := range map[string]error{
		"":              errLength,
		"a,,b":          errLength,
		"abcdefghij.12": errLength,
		"a,B":           errByte,
		"a,b,c,d,e,f,g": errMany,
	} {
		entries, err := Parse(list)
		var f *fault.Fault
		if entries != nil || !errors.As(err, &f) || f.What != ErrMirrors || !errors.Is(err, reason) {
			t.Errorf("Parse(%q) = %v, %v, want %v", list, entries, err, reason)
		}
	}
}
