package disk

import (
	"errors"
	"testing"

	"satchel/api"
	"satchel/fault"
)

// The promises are tested at the face (package satchel); here: what the errors wrap, and what a shelf knows of its files.

func TestTwoFilesOfOneName(t *testing.T) {
	sorted, err := Sorted([]api.File{{Name: "b"}, {Name: "a"}, {Name: "b", Data: "x"}})
	if sorted != nil || !errors.Is(err, fault.ErrArg) || !errors.Is(err, errTwice) {
		t.Errorf("Sorted = %v, %v", sorted, err)
	}
}

func TestAnEmptyFileIsThere(t *testing.T) {
	s := NewShelf([]api.File{{Name: "c/x"}, {Name: "p/x"}}, "x")
	if data, exists := s.Cached(); data != "" || !exists {
		t.Errorf("Cached = %q, %v", data, exists)
	}
	if steps := s.DropLeftover(); len(steps) != 1 {
		t.Errorf("an empty leftover is dropped by %v", steps)
	}
	if steps := s.DropLeftover(); len(steps) != 0 {
		t.Errorf("no leftover is dropped by %v", steps)
	}
	s = NewShelf(nil, "x")
	if data, exists := s.Cached(); data != "" || exists {
		t.Errorf("Cached = %q, %v", data, exists)
	}
}
