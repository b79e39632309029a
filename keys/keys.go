// Package keys: what is fetched, and what it is called on a mirror and on the disk.
package keys

import (
	"errors"

	"satchel/api"
	"satchel/fault"
	"satchel/names"
)

var errKind = errors.New("no kind")

// Check tells why it is no key, or nil.
func Check(k api.Key) error {
	if k.Kind != api.Head && k.Kind != api.Archive {
		return fault.Of(fault.ErrArg, errKind)
	}
	if err := names.CheckName(k.Name); err != nil {
		return err
	}
	return names.CheckVersion(k.Version)
}

// Path is where a mirror has the key.
func Path(k api.Key) string { return versionPath(k.Name, k.Version) + ending(k.Kind) }

// InfoPath is where a mirror tells about a version.
func InfoPath(name string, version string) string { return versionPath(name, version) + ".info" }

// ListPath is where a mirror tells which versions there are.
func ListPath(name string) string { return namePath(name) + "/@v/list" }

// LatestPath is where a mirror tells about the latest version.
func LatestPath(name string) string { return namePath(name) + "/@latest" }

func versionPath(name string, version string) string {
	return namePath(name) + "/@v/" + names.Escaped(version)
}

func namePath(name string) string { return "/" + names.Escaped(name) }

// Tail is what the names of the key's files end with.
func Tail(k api.Key) string {
	return names.Escaped(k.Name) + "@" + names.Escaped(k.Version) + ending(k.Kind)
}

func ending(kind int) string {
	if kind == api.Head {
		return ".head"
	}
	return ".zip"
}
