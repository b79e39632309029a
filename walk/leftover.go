package walk

import (
	"slices"
	"strings"

	"satchel/mirrors"
)

// Leftover is what came of a body that was cut off; no field of one is empty, and all are if there is none.
type Leftover struct {
	Mirror, Tag, Bytes string
}

// ParseLeftover reads the text of a leftover's file: what is no such text gives none.
func ParseLeftover(text string, entries []mirrors.Entry) Leftover {
	head, bytes, _ := strings.Cut(text, "\n")
	mirror, tag, _ := strings.Cut(head, " ")
	if tag == "" || bytes == "" || !isEntry(mirror, entries) {
		return Leftover{}
	}
	return Leftover{Mirror: mirror, Tag: tag, Bytes: bytes}
}

func isEntry(name string, entries []mirrors.Entry) bool {
	return slices.ContainsFunc(entries, func(e mirrors.Entry) bool { return e.Name == name })
}

// Text is what the leftover's file has.
func (l Leftover) Text() string {
	return l.Mirror + " " + l.Tag + "\n" + l.Bytes
}
