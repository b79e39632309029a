// Package client: what a client has, looked up and fetched.
package client

import (
	"errors"
	"strings"

	"satchel/api"
	"satchel/bundle"
	"satchel/disk"
	"satchel/fault"
	"satchel/keys"
	"satchel/mirrors"
	"satchel/sums"
	"satchel/walk"
)

// ErrNone is told of a key that is not in the cache, or not as the table says.
var ErrNone = errors.New("not in the cache")

var (
	errNumber = errors.New("a number of the config that may not be")
	errNoFile = errors.New("no file")
	errOther  = errors.New("another sum")
)

// Client has a record for each line of its table: no other key is ever in its cache.
type Client struct {
	plan    walk.Plan
	records map[api.Key]*record
}

// record is what is known of a key, and what the disk has of it.
type record struct {
	key   api.Key
	sum   string
	shelf disk.Shelf
}

// New makes a client with these files, and tells the steps of recovery.
func New(c api.Config, files []api.File) (*Client, []api.Step, error) {
	entries, err := mirrors.Parse(c.Mirrors)
	if err != nil {
		return nil, nil, err
	}
	lines, err := sums.Parse(c.Sums)
	if err != nil {
		return nil, nil, err
	}
	if err := checkNumbers(c); err != nil {
		return nil, nil, err
	}
	sorted, err := disk.Sorted(files)
	if err != nil {
		return nil, nil, err
	}
	plan := walk.Plan{Entries: entries, Tries: c.Tries, Base: c.Base, Cap: c.Cap, Deadline: c.Deadline, Limit: c.Limit}
	return &Client{plan: plan, records: recordsOf(lines, sorted)}, disk.Recovery(sorted), nil
}

func checkNumbers(c api.Config) error {
	right := isWithin(c.Tries, 1, api.MaxTries) && isWithin(c.Base, 0, api.MaxTicks) && isWithin(c.Cap, 0, api.MaxTicks) &&
		isWithin(c.Deadline, 0, api.MaxTicks) && isWithin(c.Limit, 0, api.MaxBody)
	if !right {
		return fault.Of(fault.ErrArg, errNumber)
	}
	return nil
}

func isWithin(n int, least int, most int) bool { return least <= n && n <= most }

func recordsOf(lines []sums.Line, sorted []api.File) map[api.Key]*record {
	records := map[api.Key]*record{}
	for _, l := range lines {
		records[l.Key] = &record{key: l.Key, sum: l.Sum, shelf: disk.NewShelf(sorted, keys.Tail(l.Key))}
	}
	return records
}

// Lookup tells the bytes of a key in the cache.
func (x *Client) Lookup(k api.Key) (string, error) {
	r, err := x.find(k)
	if err != nil {
		return "", err
	}
	data, err := r.lookup()
	if err != nil {
		return "", err
	}
	return strings.Clone(data), nil
}

func (x *Client) find(k api.Key) (*record, error) {
	if err := keys.Check(k); err != nil {
		return nil, err
	}
	r := x.records[k]
	if r == nil {
		return nil, fault.Of(sums.ErrNoSum, nil)
	}
	return r, nil
}

func (r *record) lookup() (string, error) {
	data, exists := r.shelf.Cached()
	if !exists {
		return "", fault.Of(ErrNone, errNoFile)
	}
	if err := r.judge(data); err != nil {
		return "", fault.Of(ErrNone, err)
	}
	return data, nil
}

// judge holds a body against the table.
func (r *record) judge(body string) error {
	sum, err := bundle.Sum(r.key.Kind, body, r.key.Name, r.key.Version)
	if err != nil {
		return fault.Of(walk.ErrSum, err)
	}
	if sum != r.sum {
		return fault.Of(walk.ErrSum, errOther)
	}
	return nil
}
