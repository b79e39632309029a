package satchel

import (
	"satchel/api"
	"satchel/client"
)

// Client fetches, and has a cache. Its calls are made one after the other.
type Client struct {
	kept *client.Client
}

// New makes a client (P8).
func New(c api.Config, files []api.File) (*Client, []api.Step, api.Errno) {
	kept, steps, err := client.New(c, files)
	if err != nil {
		return nil, nil, number(err)
	}
	return &Client{kept: kept}, steps, api.OK
}

// Lookup looks into the cache (P9).
func (x *Client) Lookup(k api.Key) (string, api.Errno) {
	data, err := x.kept.Lookup(k)
	return data, number(err)
}

// Fetch fetches a key (P10).
func (x *Client) Fetch(k api.Key, w api.World) api.Outcome {
	return outcome(x.kept.Fetch(k, w))
}

// FetchAll fetches some keys (P11).
func (x *Client) FetchAll(keys []api.Key, worlds []api.World) ([]api.Outcome, api.Errno) {
	fetched, err := x.kept.FetchAll(keys, worlds)
	if err != nil {
		return nil, number(err)
	}
	outcomes := make([]api.Outcome, 0, len(fetched))
	for _, r := range fetched {
		outcomes = append(outcomes, outcome(r))
	}
	return outcomes, api.OK
}

func outcome(r client.Result) api.Outcome {
	r.Outcome.Err = number(r.Err)
	return r.Outcome
}

// Versions asks which versions there are (P12).
func (x *Client) Versions(name string, w api.World) ([]string, api.Outcome) {
	versions, r := x.kept.Versions(name, w)
	return versions, outcome(r)
}

// About asks about a version (P12).
func (x *Client) About(name string, version string, w api.World) (api.About, api.Outcome) {
	about, r := x.kept.About(name, version, w)
	return about, outcome(r)
}

// Latest asks for the latest version (P12).
func (x *Client) Latest(name string, w api.World) (string, api.Outcome) {
	version, r := x.kept.Latest(name, w)
	return version, outcome(r)
}
