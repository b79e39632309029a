package client

import (
	"errors"
	"slices"
	"sync"

	"satchel/api"
	"satchel/fault"
	"satchel/keys"
	"satchel/walk"
)

var errKeys = errors.New("not a world for each key, or too many keys")

// Result is what a call did, and what it ended with; the outcome's own Err is not told yet.
type Result struct {
	Outcome api.Outcome
	Err     error
}

// Fetch gets a key into the cache.
func (x *Client) Fetch(k api.Key, w api.World) Result {
	r, err := x.find(k)
	if err != nil {
		return Result{Err: err}
	}
	_, err = r.lookup()
	if !errors.Is(err, ErrNone) {
		return Result{Err: err}
	}
	return r.fetch(x.plan, w)
}

func (r *record) fetch(p walk.Plan, w api.World) Result {
	var steps []api.Step
	goal := walk.Goal{Path: keys.Path(r.key), Judge: r.judge}
	if r.key.Kind == api.Archive {
		goal.Left = walk.ParseLeftover(r.shelf.Leftover(), p.Entries)
		goal.Keep = func(l walk.Leftover) { steps = append(steps, r.shelf.KeepLeftover(l.Text())) }
	}
	walker := walk.New(p, w)
	body, err := walker.Walk(goal)
	switch {
	case err == nil:
		steps = append(steps, r.shelf.Install(body)...)
	case errors.Is(err, walk.ErrSum):
		// What was left may be what made it wrong.
		steps = append(steps, r.shelf.DropLeftover()...)
	}
	outcome := walker.Done()
	outcome.Steps = steps
	return Result{Outcome: outcome, Err: err}
}

// FetchAll fetches each key in a goroutine of its own.
func (x *Client) FetchAll(all []api.Key, worlds []api.World) ([]Result, error) {
	if len(all) != len(worlds) || len(all) > api.MaxKeys {
		return nil, fault.Of(fault.ErrArg, errKeys)
	}
	fetched := make([]Result, len(all))
	var running sync.WaitGroup
	for i, k := range all {
		// A key that is there before is fetched again by that one's goroutine.
		if slices.Index(all, k) == i {
			running.Go(func() { x.fetchInTurn(k, all, worlds, fetched) })
		}
	}
	running.Wait()
	return fetched, nil
}

// fetchInTurn fetches one key each time that it is there: a later time hangs on what an earlier one did.
// Goroutines of other keys have other records, and other places in fetched.
func (x *Client) fetchInTurn(k api.Key, all []api.Key, worlds []api.World, fetched []Result) {
	for i := range all {
		if all[i] == k {
			fetched[i] = x.Fetch(k, worlds[i])
		}
	}
}
