package sums

import (
	"errors"
	"slices"
	"strings"
	"testing"

	"satchel/api"
	"satchel/fault"
	"satchel/names"
)

// What is a table is tested at the face (package satchel); here: what it says, and what the errors wrap.

var some = strings.Repeat("0f", 32)

func TestLines(t *testing.T) {
	want := []Line{
		{api.Key{Kind: api.Archive, Name: "x/Y", Version: "v1.0.0"}, some},
		{api.Key{Kind: api.Head, Name: "x/Y", Version: "v1.0.0"}, strings.Repeat("1", 64)},
	}
	got, err := Parse("x/Y v1.0.0 " + some + "\nx/Y v1.0.0/head " + strings.Repeat("1", 64) + "\n")
	if err != nil || !slices.Equal(got, want) {
		t.Errorf("Parse = %v, %v, want %v", got, err, want)
	}
}

func TestErrorsWrapWhy(t *testing.T) {
	many := ""
	for _, c := range "abcdefghijklmnopqrstuvwxyzABCDEFGHIJKLMNO" {
		many += string(c) + " v1.0.0 " + some + "\n"
	}
	for table, reason := range map[string]error{
		"x v1.0.0 " + some: errEnd,
		many:               errMany,
		"x v1.0.0 " + some + "\nx v1.0.0 " + some + "\n": errTwice,
		"x v1.0.0 " + some + "0\n":                       errSum,
		"x v1.0.0 " + some[1:] + "g\n":                   errSum,
		"! v1.0.0 " + some + "\n":                        names.ErrName,
		"x 1.0.0 " + some + "\n":                         names.ErrVersion,
	} {
		lines, err := Parse(table)
		var f *fault.Fault
		if lines != nil || !errors.As(err, &f) || f.What != ErrSums || !errors.Is(err, reason) {
			t.Errorf("Parse(%.200q) = %v, %v, want %v", table, lines, err, reason)
		}
	}
}
