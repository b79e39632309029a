// Package bundle: archives and what is in them, and the sums of heads and archives.
package bundle

import (
	"cmp"
	"errors"
	"slices"
	"strings"

	"satchel/api"
	"satchel/deflate"
	"satchel/fault"
	"satchel/names"
)

// ErrBundle is what an archive is refused as.
var ErrBundle = errors.New("no archive")

// Why it is refused.
var (
	errShort  = errors.New("it ends too early")
	errBehind = errors.New("something behind the end")
	errMark   = errors.New("not what must stand there")
	errNumber = errors.New("not the number that must stand there")
	errEntry  = errors.New("an entry tells otherwise than its part")
	errFiles  = errors.New("no files, or too many")
	errPath   = errors.New("no name of a file")
	errTwice  = errors.New("two files have one name")
	errMethod = errors.New("no method")
	errLength = errors.New("not as many bytes as told")
	errCRC    = errors.New("not the CRC-32 as told")
	errLong   = errors.New("too many bytes together")
)

const (
	methodStored   = 0
	methodDeflated = 8
)

// Unpack tells the files of an archive of the name and version, by rising names.
func Unpack(archive string, name string, version string) ([]api.File, error) {
	if err := names.CheckName(name); err != nil {
		return nil, err
	}
	if err := names.CheckVersion(version); err != nil {
		return nil, err
	}
	files, err := unpack(archive, name+"@"+version+"/")
	if err != nil {
		return nil, fault.Of(ErrBundle, err)
	}
	return files, nil
}

func unpack(archive string, prefix string) ([]api.File, error) {
	r := reader{text: archive}
	parts := r.archive()
	if r.err != nil {
		return nil, r.err
	}
	slices.SortFunc(parts, func(a part, b part) int { return cmp.Compare(a.name, b.name) })
	if err := checkNames(parts, prefix); err != nil {
		return nil, err
	}
	return unpackParts(parts)
}

// checkNames takes the parts by rising names: those with one name stand side by side.
func checkNames(parts []part, prefix string) error {
	for i, p := range parts {
		if err := checkName(p.name, prefix); err != nil {
			return err
		}
		if i > 0 && p.name == parts[i-1].name {
			return errTwice
		}
	}
	return nil
}

func checkName(name string, prefix string) error {
	path, ok := strings.CutPrefix(name, prefix)
	if !ok || len(name) > api.MaxEntry {
		return errPath
	}
	for _, element := range strings.Split(path, "/") {
		if !isElement(element) {
			return errPath
		}
	}
	return nil
}

func isElement(element string) bool {
	if element == "" || element == "." || element == ".." {
		return false
	}
	for i := range len(element) {
		if c := element[i]; c < 33 || c > 126 || c == '\\' {
			return false
		}
	}
	return true
}

func unpackParts(parts []part) ([]api.File, error) {
	files := make([]api.File, 0, len(parts))
	left := uint32(api.MaxPlain)
	for _, p := range parts {
		// Ahead of unpacking, which so makes no more than may be.
		if p.plainBytes > left {
			return nil, errLong
		}
		left -= p.plainBytes
		data, err := unpackPart(p)
		if err != nil {
			return nil, err
		}
		files = append(files, api.File{Name: strings.Clone(p.name), Data: data})
	}
	return files, nil
}

func unpackPart(p part) (string, error) {
	data, err := plain(p)
	if err != nil {
		return "", err
	}
	if len(data) != int(p.plainBytes) {
		return "", errLength
	}
	if crc32(data) != p.crc {
		return "", errCRC
	}
	return data, nil
}

// plain tells a part's bytes in new memory, unpacked.
func plain(p part) (string, error) {
	switch p.method {
	case methodStored:
		if p.packedBytes != p.plainBytes {
			return "", errLength
		}
		return strings.Clone(p.packed), nil
	case methodDeflated:
		return deflate.Inflate(p.packed, int(p.plainBytes))
	}
	return "", errMethod
}
