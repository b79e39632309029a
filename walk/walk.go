// Package walk: a list of mirrors is gone through until one of them has what is sought.
package walk

import (
	"errors"
	"strings"

	"satchel/api"
	"satchel/fault"
	"satchel/mirrors"
	"satchel/reply"
)

// What a walk ends with.
var (
	ErrSum      = errors.New("not the sum that the table has")
	ErrOff      = errors.New("the list says off")
	ErrDirect   = errors.New("the list says direct")
	ErrNotFound = errors.New("no mirror has it")
	ErrFailed   = errors.New("a mirror failed")
)

var errTries = errors.New("no try left")

// Plan is what all walks of a client go by.
type Plan struct {
	Entries         []mirrors.Entry
	Tries           int
	Base, Cap       int
	Deadline, Limit int
}

// Walker has what is left of the dials and the draws, and what has been done.
type Walker struct {
	plan  Plan
	world api.World
	done  api.Outcome
}

// New makes a walker that has done nothing.
func New(p Plan, w api.World) *Walker {
	return &Walker{plan: p, world: w}
}

// Done tells what was sent and waited, and the ticks of both.
func (w *Walker) Done() api.Outcome { return w.done }

// Walk tells a body that is good.
func (w *Walker) Walk(g Goal) (string, error) {
	var last error
	for _, e := range w.plan.Entries {
		body, err := w.visit(e.Name, &g)
		goesOn := errors.Is(err, ErrNotFound) || errors.Is(err, ErrFailed) && e.Passes
		if !goesOn {
			return body, err
		}
		last = err
	}
	return "", last
}

// visit tells what the walk ends with, if this is the last entry.
func (w *Walker) visit(entry string, g *Goal) (string, error) {
	switch entry {
	case mirrors.Off:
		return "", fault.Of(ErrOff, nil)
	case mirrors.Direct:
		return "", fault.Of(ErrDirect, nil)
	}
	body, err := w.ask(entry, g)
	switch {
	case err == nil:
		return body, nil
	case errors.Is(err, ErrSum):
		return "", err
	case errors.Is(err, errMissing):
		return "", fault.Of(ErrNotFound, err)
	}
	return "", fault.Of(ErrFailed, err)
}

// ask dials a mirror until it says something, or there is no try left.
func (w *Walker) ask(mirror string, g *Goal) (string, error) {
	var last error
	for try := range w.plan.Tries {
		if try > 0 {
			w.wait(try)
		}
		body, err := g.take(mirror, w.dial(mirror, g))
		if err == nil {
			return body, g.judge(body)
		}
		if !errors.Is(err, errAgain) {
			return "", err
		}
		last = err
	}
	return "", fault.Of(errTries, last)
}

func (w *Walker) dial(mirror string, g *Goal) api.Reply {
	w.done.Sent = append(w.done.Sent, api.Sent{Mirror: strings.Clone(mirror), Request: g.request(mirror)})
	dial := next(&w.world.Dials, api.Dial{Refused: true})
	r := reply.Read(dial, w.plan.Deadline, w.plan.Limit)
	w.done.Ticks += r.Ticks
	return r
}

// wait is longer for each later try, and in part as the draws say, so that clients do not come back all at once.
func (w *Walker) wait(try int) {
	longest := min(w.plan.Base<<(try-1), w.plan.Cap)
	half := longest / 2
	draw := max(next(&w.world.Draws, 0), 0)
	ticks := longest - half + draw%(half+1)
	w.done.Waits = append(w.done.Waits, ticks)
	w.done.Ticks += ticks
}

// next takes the first of a list, or what there is behind its last.
func next[T any](list *[]T, behind T) T {
	if len(*list) == 0 {
		return behind
	}
	first := (*list)[0]
	*list = (*list)[1:]
	return first
}
