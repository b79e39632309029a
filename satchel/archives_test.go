package satchel_test

import (
	"hash/crc32"
	"sort"
	"strings"

	"satchel/api"
)

const (
	someName    = "x/Y"
	someVersion = "v1.0.0"
	somePrefix  = "x/Y@v1.0.0/"
)

// A packedFile is what an archive has of a file, as it is told, right or wrong.
type packedFile struct {
	name, packed                                    string
	method, crc, packedBytes, plainBytes, nameBytes int
}

func storedFile(path string, data string) packedFile {
	name := somePrefix + path
	return packedFile{name, data, 0, int(crc32.ChecksumIEEE([]byte(data))), len(data), len(data), len(name)}
}

func deflatedFile(path string, data string) packedFile {
	f := storedFile(path, data)
	f.method = 8
	// With fixed codes alone, so that no bit of it is free.
	var symbols []int
	for i := range len(data) {
		symbols = append(symbols, int(data[i]))
	}
	f.packed = fixed(append(symbols, 256)...).text()
	f.packedBytes = len(f.packed)
	return f
}

// low is a number of so many bytes, the lowest first.
func low(value int, bytes int) string {
	b := make([]byte, bytes)
	for i := range b {
		b[i] = byte(value >> (8 * i))
	}
	return string(b)
}

func (f packedFile) told() string {
	return low(f.crc, 4) + low(f.packedBytes, 4) + low(f.plainBytes, 4) + low(f.nameBytes, 2)
}

func (f packedFile) part() string {
	return "PK\x03\x04" + "\x14\x00" + low(0, 2) + low(f.method, 2) + "time" + f.told() + low(0, 2) + f.name + f.packed
}

func (f packedFile) entry(at int) string {
	return "PK\x01\x02" + "\x14\x03\x14\x00" + low(0, 2) + low(f.method, 2) + "date" + f.told() + low(0, 6) + "others" + low(at, 4) + f.name
}

func endOfArchive(files int, entriesBytes int, entriesAt int) string {
	return "PK\x05\x06" + low(0, 4) + low(files, 2) + low(files, 2) + low(entriesBytes, 4) + low(entriesAt, 4) + low(0, 2)
}

func archiveOf(files ...packedFile) string {
	parts, entries := "", ""
	for _, f := range files {
		entries += f.entry(len(parts))
		parts += f.part()
	}
	return parts + entries + endOfArchive(len(files), len(entries), len(parts))
}

// anyPlaces are the places of an archive's bytes that may be any.
func anyPlaces(files ...packedFile) map[int]bool {
	places := map[int]bool{}
	at := 0
	free := func(offsets ...int) {
		for _, o := range offsets {
			places[at+o] = true
		}
	}
	for _, f := range files {
		free(4, 5, 10, 11, 12, 13)
		at += len(f.part())
	}
	for _, f := range files {
		free(4, 5, 6, 7, 12, 13, 14, 15, 36, 37, 38, 39, 40, 41)
		at += len(f.entry(0))
	}
	return places
}

// plainFiles are the stored files as Unpack tells them.
func plainFiles(files ...packedFile) []api.File {
	var plain []api.File
	for _, f := range files {
		plain = append(plain, api.File{Name: f.name, Data: f.packed})
	}
	sort.Slice(plain, func(i int, k int) bool { return plain[i].Name < plain[k].Name })
	return plain
}

// librarySum is the sum of an archive of these files, by rising names.
func librarySum(files []api.File) string {
	var text strings.Builder
	for _, f := range files {
		text.WriteString(libraryDigest(f.Data) + "  " + f.Name + "\n")
	}
	return libraryDigest(text.String())
}
