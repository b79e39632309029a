package client

import (
	"errors"
	"strings"
	"testing"

	"satchel/api"
	"satchel/bundle"
	"satchel/fault"
	"satchel/mirrors"
	"satchel/names"
	"satchel/sums"
	"satchel/walk"
)

// The promises are tested at the face (package satchel); here: what the errors wrap.

var (
	head   = api.Key{Kind: api.Head, Name: "x", Version: "v1.0.0"}
	zip    = api.Key{Kind: api.Archive, Name: "x", Version: "v1.0.0"}
	config = api.Config{
		Mirrors: "a",
		Sums:    "x v1.0.0/head " + strings.Repeat("0", 64) + "\nx v1.0.0 " + strings.Repeat("1", 64) + "\n",
		Tries:   1, Deadline: 9, Limit: 9,
	}
)

func checkFault(t *testing.T, what string, err error, outermost error, reason error) {
	t.Helper()
	var f *fault.Fault
	if !errors.As(err, &f) || f.What != outermost || !errors.Is(err, reason) {
		t.Errorf("%s: %v, want %v: %v", what, err, outermost, reason)
	}
}

func TestFaultsOfNew(t *testing.T) {
	_, _, err := New(api.Config{}, nil)
	checkFault(t, "no mirrors", err, mirrors.ErrMirrors, mirrors.ErrMirrors)
	_, _, err = New(api.Config{Mirrors: "a", Sums: "/ v1.0.0 \n"}, nil)
	checkFault(t, "no sums", err, sums.ErrSums, names.ErrName)
	_, _, err = New(api.Config{Mirrors: "a"}, nil)
	checkFault(t, "no tries", err, fault.ErrArg, errNumber)
}

func TestFaultsOfLookup(t *testing.T) {
	x, _, err := New(config, []api.File{{Name: "c/x@v1.0.0.zip", Data: "none"}})
	if err != nil {
		t.Fatal(err)
	}
	_, err = x.Lookup(api.Key{Kind: api.Head, Name: "y", Version: "v1.0.0"})
	checkFault(t, "another key", err, sums.ErrNoSum, sums.ErrNoSum)
	_, err = x.Lookup(head)
	checkFault(t, "no file", err, ErrNone, errNoFile)
	_, err = x.Lookup(zip)
	checkFault(t, "no archive", err, ErrNone, bundle.ErrBundle)
}

func TestFaultsOfFetch(t *testing.T) {
	x, _, err := New(config, nil)
	if err != nil {
		t.Fatal(err)
	}
	dial := api.Dial{Events: []api.Event{{What: api.Data, Data: "HTTP/1.1 200 OK\r\nContent-Length: 1\r\n\r\nx"}}}
	world := api.World{Dials: []api.Dial{dial}}
	checkFault(t, "a wrong head", x.Fetch(head, world).Err, walk.ErrSum, errOther)
	checkFault(t, "no archive", x.Fetch(zip, world).Err, walk.ErrSum, bundle.ErrBundle)
	checkFault(t, "no dials", x.Fetch(zip, api.World{}).Err, walk.ErrFailed, walk.ErrFailed)
	_, err = x.FetchAll([]api.Key{head}, nil)
	checkFault(t, "no world", err, fault.ErrArg, errKeys)
}
