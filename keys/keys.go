// Package keys: what is fetched, and what it is called on a mirror and on the disk.
package keys

import (
	"errors"

	"satchel/api"
	"satchel/fault"
	"satchel/names"
)

var errKind = errors.New("no kind")

// Check tells why it is no key, or nil.
func Check(k api.Key) error {
	if k.Kind != api.Head && k.Kind != api.Archive {
		return fault.Of(fault.ErrArg, errKind)
	}
	if err := names.CheckName(k.Name); err != nil {
		return err
	}
	return names.CheckVersion(k.Version)
}

// Path is where a mirror has the key.
func Path(k api.Key) string {
	return "/" + names.Escaped(k.Name) + "/@v/" + names.Escaped(k.Version) + ending(k.Kind)
}

// Tail is what the names of the key's files end with.
func Tail(k api.Key) string {
	return names.Escaped(k.Name) + "@" + names.Escaped(k.Version) + ending(k.Kind)
}

func ending(kind int) string {
	if kind == api.Head {
		return ".head"
	}
	return ".zip"
}
