package reply

import (
	"errors"

	"satchel/api"
)

// Why no byte comes any more.
var (
	errRefused = errors.New("the dial was refused")
	errLate    = errors.New("the deadline is over")
	errReset   = errors.New("the connection broke")
	errClosed  = errors.New("the other side ended the connection")
)

// wire is a dial whose bytes are taken one by one.
type wire struct {
	refused  bool
	events   []api.Event
	rest     string // what has not been taken of the last event
	deadline int
	ticks    int
}

func (w *wire) take() (byte, error) {
	for w.rest == "" {
		if err := w.next(); err != nil {
			return 0, err
		}
	}
	c := w.rest[0]
	w.rest = w.rest[1:]
	return c, nil
}

// next waits for an event: it brings bytes, if only none, or the end.
func (w *wire) next() error {
	if w.refused {
		return errRefused
	}
	if len(w.events) == 0 {
		return errReset
	}
	e := w.events[0]
	w.events = w.events[1:]
	if err := w.wait(e.Ticks); err != nil {
		return err
	}
	switch e.What {
	case api.Data:
		w.rest = e.Data
		return nil
	case api.Close:
		return errClosed
	}
	return errReset
}

func (w *wire) wait(ticks int) error {
	ticks = max(ticks, 0)
	// Not added up first: the sum could be greater than a number can be.
	if ticks > w.deadline-w.ticks {
		w.ticks = w.deadline
		return errLate
	}
	w.ticks += ticks
	return nil
}
