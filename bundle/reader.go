package bundle

import (
	"strings"

	"satchel/api"
)

const (
	partMark  = "PK\x03\x04"
	entryMark = "PK\x01\x02"
	endMark   = "PK\x05\x06"
)

// reader goes through an archive's bytes once.
// What it reads behind its first fault means nothing.
type reader struct {
	text string
	at   int
	err  error
}

// told is what stands in a part and again in its entry.
type told struct {
	method, crc, packedBytes, plainBytes, nameBytes uint32
}

// part is one file, still packed.
type part struct {
	told
	at           int
	name, packed string
}

func (r *reader) fail(err error) {
	if r.err == nil {
		r.err = err
	}
}

func (r *reader) take(bytes uint32) string {
	// In 64 bits, where no number of 4 bytes is below 0.
	if uint64(bytes) > uint64(len(r.text)-r.at) {
		r.fail(errShort)
		return ""
	}
	taken := r.text[r.at : r.at+int(bytes)]
	r.at += int(bytes)
	return taken
}

// number reads a number, its lowest byte first.
func (r *reader) number(bytes uint32) uint32 {
	value := uint32(0)
	for i, c := range []byte(r.take(bytes)) {
		value |= uint32(c) << (8 * i)
	}
	return value
}

func (r *reader) expect(text string) {
	if r.take(uint32(len(text))) != text {
		r.fail(errMark)
	}
}

// expectNumber is for what is known ahead; known may be more than fits.
func (r *reader) expectNumber(bytes uint32, known int) {
	if uint64(r.number(bytes)) != uint64(known) {
		r.fail(errNumber)
	}
}

func (r *reader) told() told {
	var t told
	t.method = r.number(2)
	r.take(4)
	t.crc = r.number(4)
	t.packedBytes = r.number(4)
	t.plainBytes = r.number(4)
	t.nameBytes = r.number(2)
	return t
}

// archive reads parts, entries and the end; there is nothing but these.
func (r *reader) archive() []part {
	var parts []part
	for len(parts) <= api.MaxFiles && r.err == nil && strings.HasPrefix(r.text[r.at:], partMark) {
		parts = append(parts, r.part())
	}
	if len(parts) == 0 || len(parts) > api.MaxFiles {
		r.fail(errFiles)
	}
	behindParts := r.at
	for _, p := range parts {
		r.entry(p)
	}
	r.end(len(parts), behindParts)
	return parts
}

func (r *reader) part() part {
	var p part
	p.at = r.at
	r.expect(partMark)
	r.take(2)
	r.expectNumber(2, 0)
	p.told = r.told()
	r.expectNumber(2, 0)
	p.name = r.take(p.nameBytes)
	p.packed = r.take(p.packedBytes)
	return p
}

func (r *reader) entry(p part) {
	r.expect(entryMark)
	r.take(4)
	r.expectNumber(2, 0)
	if r.told() != p.told {
		r.fail(errEntry)
	}
	r.expectNumber(2, 0)
	r.expectNumber(2, 0)
	r.expectNumber(2, 0)
	r.take(6)
	r.expectNumber(4, p.at)
	r.expect(p.name)
}

func (r *reader) end(files int, behindParts int) {
	behindEntries := r.at
	r.expect(endMark)
	r.expectNumber(2, 0)
	r.expectNumber(2, 0)
	r.expectNumber(2, files)
	r.expectNumber(2, files)
	r.expectNumber(4, behindEntries-behindParts)
	r.expectNumber(4, behindParts)
	r.expectNumber(2, 0)
	if r.at < len(r.text) {
		r.fail(errBehind)
	}
}
