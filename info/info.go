// Package info: texts about versions.
package info

import (
	"errors"

	"satchel/api"
	"satchel/fault"
	"satchel/names"
)

// ErrInfo is what a text is refused as.
var ErrInfo = errors.New("no text about a version")

// Why it is refused.
var (
	errByte      = errors.New("a byte that cannot stand there")
	errEnd       = errors.New("the text ends too early")
	errNumber    = errors.New("no number")
	errTwice     = errors.New("two fields of one name")
	errNoVersion = errors.New("no text as Version")
)

// Read tells what the text says about a version.
func Read(text string) (api.About, error) {
	about, err := read(text)
	if err != nil {
		return api.About{}, fault.Of(ErrInfo, err)
	}
	return about, nil
}

func read(text string) (api.About, error) {
	fields, err := readObject(text)
	if err != nil {
		return api.About{}, err
	}
	// A field that is not there is no string, and has no text.
	version := fields["Version"]
	if !version.isString {
		return api.About{}, errNoVersion
	}
	if err := names.CheckVersion(version.text); err != nil {
		return api.About{}, err
	}
	return api.About{Version: version.text, Time: fields["Time"].text}, nil
}
