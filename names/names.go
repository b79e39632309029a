// Package names: names and versions of bundles, and how they are escaped.
package names

import (
	"errors"
	"strings"

	"satchel/api"
	"satchel/fault"
)

// What a text is refused as.
var (
	ErrName    = errors.New("no name")
	ErrVersion = errors.New("no version")
)

// Why it is refused.
var (
	errEmpty  = errors.New("nothing where something must stand")
	errLong   = errors.New("too many bytes")
	errByte   = errors.New("a byte that may not stand there")
	errDot    = errors.New("a dot at an element's end")
	errZero   = errors.New("a 0 ahead of other digits")
	errShape  = errors.New("not v and three numbers")
	errEscape = errors.New("not a text that is escaped")
)

// CheckName tells why the text is no name, or nil.
func CheckName(name string) error {
	// Ahead of splitting: a very long text is not worth taking apart.
	if len(name) > api.MaxName {
		return fault.Of(ErrName, errLong)
	}
	for _, element := range strings.Split(name, "/") {
		if err := checkElement(element); err != nil {
			return fault.Of(ErrName, err)
		}
	}
	return nil
}

func checkElement(element string) error {
	if element == "" {
		return errEmpty
	}
	if element[0] == '.' || element[len(element)-1] == '.' {
		return errDot
	}
	for i := range len(element) {
		if !isElementByte(element[i]) {
			return errByte
		}
	}
	return nil
}

func isElementByte(c byte) bool {
	return isMarkByte(c) || c == '_' || c == '.'
}

func isMarkByte(c byte) bool {
	return isSmall(c) || isCapital(c) || isDigit(c) || c == '-'
}

func isSmall(c byte) bool { return 'a' <= c && c <= 'z' }

func isCapital(c byte) bool { return 'A' <= c && c <= 'Z' }

func isDigit(c byte) bool { return '0' <= c && c <= '9' }
