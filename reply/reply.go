// Package reply: what comes of a dial, read byte by byte.
package reply

import (
	"errors"

	"satchel/api"
	"satchel/fault"
)

// What a reply that is not complete is told as.
var (
	errAgain  = errors.New("a reply that was cut off")
	errBroken = errors.New("no reply")
)

// Statuses that a body follows.
const (
	whole = 200
	part  = 206
)

// Read tells the reply to a dial.
func Read(d api.Dial, deadline int, limit int) api.Reply {
	m := machine{
		in:    wire{refused: d.Refused, events: d.Events, deadline: clamp(deadline, api.MaxTicks)},
		limit: clamp(limit, api.MaxBody),
	}
	m.run()
	return m.tell()
}

func clamp(n int, most int) int {
	return min(max(n, 0), most)
}

func (m *machine) tell() api.Reply {
	r := api.Reply{Class: class(m.head.status, m.err), Ticks: m.in.ticks}
	if r.Class == api.Broken {
		return r
	}
	// A head that is not complete has left all of these 0 or empty.
	r.Status = m.head.status
	r.Tag = m.head.tag
	r.Body = string(m.body)
	if m.head.status == part {
		r.From = m.head.span.first
		r.Total = m.head.span.total
	}
	return r
}

func class(status int, err error) int {
	var outermost *fault.Fault
	if errors.As(err, &outermost) {
		return classOfFault(outermost)
	}
	switch {
	case status == whole:
		return api.Done
	case status == part:
		return api.Part
	case status == 404 || status == 410:
		return api.Missing
	case status == 429 || status >= 500:
		return api.Again
	}
	return api.Wrong
}

func classOfFault(f *fault.Fault) int {
	if f.What == errBroken {
		return api.Broken
	}
	return api.Again
}
