package reply

import (
	"errors"

	"satchel/api"
	"satchel/fault"
)

// Why a reply is broken.
var (
	errByte  = errors.New("a byte that cannot stand there")
	errLong  = errors.New("more bytes of lines than there may be")
	errHead  = errors.New("a wrong head")
	errLimit = errors.New("more bytes of body than may come")
	errPart  = errors.New("not so many bytes of body as the head says")
)

// machine reads a reply byte by byte.
// What it takes behind its first fault is 0, which can stand in no line: so its states come to their end.
type machine struct {
	in    wire
	limit int
	room  int // how many more bytes of lines may come
	head  head
	body  []byte
	err   error
}

func (m *machine) fail(what error, below error) {
	if m.err == nil {
		m.err = fault.Of(what, below)
	}
}

func (m *machine) broken(why error) { m.fail(errBroken, why) }

func (m *machine) take() byte {
	if m.err != nil {
		return 0
	}
	c, err := m.in.take()
	if err != nil {
		m.fail(errAgain, err)
	}
	return c
}

// run goes through the parts of a reply; each label is a state.
func (m *machine) run() {
	m.readHead()
	switch {
	case m.err != nil || !m.head.hasBody():
		return
	case m.head.chunked:
		goto chunked
	case m.head.hasLength:
		goto counted
	}
	m.toClose()
	goto complete

chunked:
	m.chunks()
	goto complete

counted:
	m.pass(m.head.length)

complete:
	if m.head.status == part && len(m.body) != m.head.span.length() {
		m.broken(errPart)
	}
}

// pass takes so many bytes of body.
func (m *machine) pass(left int) {
	var c byte

next:
	if left == 0 {
		return
	}
	c = m.take()
	if m.err != nil {
		return
	}
	m.body = append(m.body, c)
	left--
	goto next
}

// toClose takes a body that only a Close ends.
func (m *machine) toClose() {
	var c byte
	var err error

next:
	c, err = m.in.take()
	switch {
	case errors.Is(err, errClosed):
		return
	case err != nil:
		m.fail(errAgain, err)
		return
	case len(m.body) == m.limit:
		m.broken(errLimit)
		return
	}
	m.body = append(m.body, c)
	goto next
}

// chunks takes a body in chunks, and the lines behind the last one.
func (m *machine) chunks() {
	var size int
	m.room = api.MaxHead

chunk:
	size = m.size()
	switch {
	case m.err != nil:
		return
	case size == 0:
		goto last
	case size > m.limit-len(m.body):
		m.broken(errLimit)
		return
	}
	m.pass(size)
	// Not a line's: this end does not count among the bytes of lines.
	if m.take() != '\r' || m.take() != '\n' {
		m.broken(errByte)
		return
	}
	goto chunk

last:
	m.lines()
}
