// Package mirrors: lists of mirrors.
package mirrors

import (
	"errors"
	"strings"

	"satchel/api"
	"satchel/fault"
)

// ErrMirrors is what a text is refused as.
var ErrMirrors = errors.New("no list of mirrors")

// Why it is refused.
var (
	errMany   = errors.New("too many entries")
	errLength = errors.New("an entry that is empty or too long")
	errByte   = errors.New("a byte that may not stand in an entry")
)

// Entries with a meaning of their own.
const (
	Off    = "off"
	Direct = "direct"
)

const maxEntry = 12

// Entry is one of a list.
type Entry struct {
	Name string
	// Passes: if this one fails, the next one is gone to.
	Passes bool
}

// Parse tells the entries of a list.
func Parse(list string) ([]Entry, error) {
	entries, err := parse(list)
	if err != nil {
		return nil, fault.Of(ErrMirrors, err)
	}
	return entries, nil
}

func parse(list string) ([]Entry, error) {
	var entries []Entry
	for rest, more := list, true; more; {
		if len(entries) == api.MaxMirrors {
			return nil, errMany
		}
		var e Entry
		e, rest, more = cut(rest)
		if err := checkEntry(e.Name); err != nil {
			return nil, err
		}
		// A name is a piece of the text that was handed in.
		e.Name = strings.Clone(e.Name)
		entries = append(entries, e)
	}
	return entries, nil
}

// cut takes the first entry off a list.
func cut(list string) (first Entry, rest string, more bool) {
	at := strings.IndexAny(list, ",|")
	if at < 0 {
		return Entry{Name: list}, "", false
	}
	return Entry{Name: list[:at], Passes: list[at] == '|'}, list[at+1:], true
}

func checkEntry(name string) error {
	if name == "" || len(name) > maxEntry {
		return errLength
	}
	for i := range len(name) {
		if !isEntryByte(name[i]) {
			return errByte
		}
	}
	return nil
}

func isEntryByte(c byte) bool {
	return 'a' <= c && c <= 'z' || '0' <= c && c <= '9' || c == '.'
}
