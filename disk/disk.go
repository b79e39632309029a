// Package disk: the files of keys, and the steps by which they become others.
package disk

import (
	"cmp"
	"errors"
	"slices"
	"strings"

	"satchel/api"
	"satchel/fault"
)

var errTwice = errors.New("two files have one name")

// What the names of files begin with.
const (
	inCache  = "c/"
	onTheWay = "t/"
	leftOver = "p/"
)

// Sorted tells the files by rising names.
func Sorted(files []api.File) ([]api.File, error) {
	sorted := slices.Clone(files)
	slices.SortFunc(sorted, compareNames)
	for i := 1; i < len(sorted); i++ {
		if sorted[i].Name == sorted[i-1].Name {
			return nil, fault.Of(fault.ErrArg, errTwice)
		}
	}
	return sorted, nil
}

func compareNames(a api.File, b api.File) int { return cmp.Compare(a.Name, b.Name) }

// Recovery removes what a crash has left on the way to the cache.
func Recovery(sorted []api.File) []api.Step {
	var steps []api.Step
	for _, f := range sorted {
		if strings.HasPrefix(f.Name, onTheWay) {
			steps = append(steps, api.Step{What: api.Remove, Name: strings.Clone(f.Name)})
		}
	}
	return steps
}

// find takes files by rising names; what it tells is new memory.
func find(sorted []api.File, name string) file {
	at, found := slices.BinarySearchFunc(sorted, api.File{Name: name}, compareNames)
	if !found {
		return file{}
	}
	return file{exists: true, data: strings.Clone(sorted[at].Data)}
}
