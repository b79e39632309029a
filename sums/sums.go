// Package sums: tables of sums.
package sums

import (
	"errors"
	"slices"
	"strings"

	"satchel/api"
	"satchel/fault"
	"satchel/keys"
)

// What a table is refused as, and a key that it has not.
var (
	ErrSums  = errors.New("no table of sums")
	ErrNoSum = errors.New("the table has no such key")
)

// Why a table is refused.
var (
	errEnd   = errors.New("a line without its end")
	errMany  = errors.New("too many lines")
	errTwice = errors.New("two lines of one key")
	errSum   = errors.New("no sum")
)

const sumDigits = 64

// Line is the sum of a key.
type Line struct {
	Key api.Key
	Sum string
}

// Parse tells the lines of a table.
func Parse(table string) ([]Line, error) {
	lines, err := parse(table)
	if err != nil {
		return nil, fault.Of(ErrSums, err)
	}
	return lines, nil
}

func parse(table string) ([]Line, error) {
	var lines []Line
	for rest := table; rest != ""; {
		if len(lines) == api.MaxSums {
			return nil, errMany
		}
		text, behind, ended := strings.Cut(rest, "\n")
		if !ended {
			return nil, errEnd
		}
		line, err := parseLine(text)
		if err != nil {
			return nil, err
		}
		if has(lines, line.Key) {
			return nil, errTwice
		}
		lines = append(lines, line)
		rest = behind
	}
	return lines, nil
}

func parseLine(text string) (Line, error) {
	// Cloned, since its pieces are kept.
	name, rest, _ := strings.Cut(strings.Clone(text), " ")
	version, sum, _ := strings.Cut(rest, " ")
	version, isHead := strings.CutSuffix(version, "/head")
	k := api.Key{Kind: api.Archive, Name: name, Version: version}
	if isHead {
		k.Kind = api.Head
	}
	if err := keys.Check(k); err != nil {
		return Line{}, err
	}
	if !isSum(sum) {
		return Line{}, errSum
	}
	return Line{Key: k, Sum: sum}, nil
}

func isSum(text string) bool {
	if len(text) != sumDigits {
		return false
	}
	for i := range len(text) {
		if !isSumDigit(text[i]) {
			return false
		}
	}
	return true
}

func isSumDigit(c byte) bool {
	return '0' <= c && c <= '9' || 'a' <= c && c <= 'f'
}

func has(lines []Line, k api.Key) bool {
	return slices.ContainsFunc(lines, func(l Line) bool { return l.Key == k })
}
