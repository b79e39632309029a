package client

import (
	"errors"
	"strings"
	"testing"

	"satchel/api"
	"satchel/bundle"
	"satchel/fault"
	"satchel/info"
	"satchel/mirrors"
	"satchel/names"
	"satchel/sums"
	"satchel/walk"
)

// The promises are tested at the face (package satchel); here: what the errors wrap.

var (
	head   = api.Key{Kind: api.Head, Name: "x", Version: "v1.0.0"}
	zip    = api.Key{Kind: api.Archive, Name: "x", Version: "v1.0.0"}
	config = api.Config{
		Mirrors: "a",
		Sums:    "x v1.0.0/head " + strings.Repeat("0", 64) + "\nx v1.0.0 " + strings.Repeat("1", 64) + "\n",
		Tries:   1, Deadline: 9, Limit: 9,
	}
)

func checkFault(t *testing.T, what string, err error, outermost error, reason error) {
	t.Helper()
	var f *fault.Fault
	if !errors.As(err, &f) || f.What != outermost || !errors.Is(err, reason) {
		t.Errorf("%s: %v, want %v: %v", what, err, outermost, reason)
	}
}

func says(text string) api.Dial {
	return api.Dial{Events: []api.Event{{What: api.Data, Data: text}}}
}

func TestFaultsOfNew(t *testing.T) {
	_, _, err := New(api.Config{}, nil)
	checkFault(t, "no mirrors", err, mirrors.ErrMirrors, mirrors.ErrMirrors)
	_, _, err = New(api.Config{Mirrors: "a", Sums: "/ v1.0.0 \n"}, nil)
	checkFault(t, "no sums", err, sums.ErrSums, names.ErrName)
	_, _, err = New(api.Config{Mirrors: "a"}, nil)
	checkFault(t, "no tries", err, fault.ErrArg, errNumber)
}

func TestFaultsOfLookup(t *testing.T) {
	x, _, err := New(config, []api.File{{Name: "c/x@v1.0.0.zip", Data: "none"}})
	if err != nil {
		t.Fatal(err)
	}
	_, err = x.Lookup(api.Key{Kind: api.Head, Name: "y", Version: "v1.0.0"})
	checkFault(t, "another key", err, sums.ErrNoSum, sums.ErrNoSum)
	_, err = x.Lookup(head)
	checkFault(t, "no file", err, ErrNone, errNoFile)
	_, err = x.Lookup(zip)
	checkFault(t, "no archive", err, ErrNone, bundle.ErrBundle)
}

func TestFaultsOfFetch(t *testing.T) {
	x, _, err := New(config, nil)
	if err != nil {
		t.Fatal(err)
	}
	world := api.World{Dials: []api.Dial{says("HTTP/1.1 200 OK\r\nContent-Length: 1\r\n\r\nx")}}
	checkFault(t, "a wrong head", x.Fetch(head, world).Err, walk.ErrSum, errOther)
	checkFault(t, "no archive", x.Fetch(zip, world).Err, walk.ErrSum, bundle.ErrBundle)
	checkFault(t, "no dials", x.Fetch(zip, api.World{}).Err, walk.ErrFailed, walk.ErrFailed)
	_, err = x.FetchAll([]api.Key{head}, nil)
	checkFault(t, "no world", err, fault.ErrArg, errKeys)
}

func TestFaultsOfAsks(t *testing.T) {
	x, _, err := New(config, nil)
	if err != nil {
		t.Fatal(err)
	}
	gone, empty := says("HTTP/1.1 404 \r\n\r\n"), says("HTTP/1.1 200 OK\r\nContent-Length: 0\r\n\r\n")
	_, r := x.Versions("", api.World{})
	checkFault(t, "Versions of no name", r.Err, names.ErrName, names.ErrName)
	_, r = x.About("", "", api.World{})
	checkFault(t, "About no name", r.Err, names.ErrName, names.ErrName)
	_, r = x.About("x", "", api.World{})
	checkFault(t, "About no version", r.Err, names.ErrVersion, names.ErrVersion)
	_, r = x.About("x", "v1.0.0", api.World{Dials: []api.Dial{empty}})
	checkFault(t, "About without sense", r.Err, walk.ErrFailed, info.ErrInfo)
	_, r = x.Latest("", api.World{})
	checkFault(t, "Latest of no name", r.Err, names.ErrName, names.ErrName)
	_, r = x.Latest("x", api.World{Dials: []api.Dial{gone, empty}})
	checkFault(t, "Latest of an empty list", r.Err, walk.ErrNotFound, errNoVersions)
	_, r = x.Latest("x", api.World{Dials: []api.Dial{gone}})
	checkFault(t, "Latest without a list", r.Err, walk.ErrFailed, walk.ErrFailed)
}
