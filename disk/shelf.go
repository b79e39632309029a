package disk

import (
	"strings"

	"satchel/api"
)

// Shelf is what the disk has of one key.
// What is on the way to the cache is not here: it is there only within an installation.
type Shelf struct {
	tail   string
	cached file
	left   file
}

// file may exist without a byte.
type file struct {
	exists bool
	data   string
}

// NewShelf takes the files by rising names, and what those of its key end with.
func NewShelf(sorted []api.File, tail string) Shelf {
	return Shelf{tail: tail, cached: find(sorted, inCache+tail), left: find(sorted, leftOver+tail)}
}

// Cached tells the bytes in the cache, if there is a file.
func (s *Shelf) Cached() (string, bool) { return s.cached.data, s.cached.exists }

// Leftover tells the leftover's file; one that is not there is empty.
func (s *Shelf) Leftover() string { return s.left.data }

// Install puts bytes into the cache: under their name there only when they are safe.
func (s *Shelf) Install(data string) []api.Step {
	s.cached = file{exists: true, data: data}
	steps := []api.Step{
		write(onTheWay+s.tail, data),
		{What: api.Sync, Name: onTheWay + s.tail},
		{What: api.Rename, Name: onTheWay + s.tail, To: inCache + s.tail},
		{What: api.SyncDir},
	}
	return append(steps, s.DropLeftover()...)
}

// KeepLeftover writes the leftover's file.
func (s *Shelf) KeepLeftover(text string) api.Step {
	s.left = file{exists: true, data: text}
	return write(leftOver+s.tail, text)
}

// DropLeftover removes the leftover's file, if there is one.
func (s *Shelf) DropLeftover() []api.Step {
	if !s.left.exists {
		return nil
	}
	s.left = file{}
	return []api.Step{{What: api.Remove, Name: leftOver + s.tail}}
}

// write clones: the shelf keeps the bytes that the step tells.
func write(name string, data string) api.Step {
	return api.Step{What: api.Write, Name: name, Data: strings.Clone(data)}
}
