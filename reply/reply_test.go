package reply

import (
	"errors"
	"strings"
	"testing"

	"satchel/api"
	"satchel/fault"
)

// The promise is tested at the face (package satchel); here: what the errors wrap.

func read(d api.Dial) error {
	m := machine{in: wire{refused: d.Refused, events: d.Events, deadline: 9}, limit: 9}
	m.run()
	return m.err
}

func TestFaultsWrapReasons(t *testing.T) {
	const ok = "HTTP/1.1 200 OK\r\n"
	const chunked = ok + "Transfer-Encoding: chunked\r\n\r\n"
	for _, c := range []struct {
		text   string
		reason error
	}{
		{"x", errByte},
		{"HTTP/1.1 6", errByte},
		{"HTTP/1.1 2x", errByte},
		{"HTTP/1.1 200 \n", errByte},
		{ok + "A ", errByte},
		{ok + ":", errByte},
		{ok + "\r\r", errByte},
		{"HTTP/1.1 404 " + strings.Repeat("x", 400), errLong},
		{chunked + "g", errByte},
		{chunked + "1\r\nab", errByte},
		{chunked + "0;" + strings.Repeat("x", 400), errLong},
		{chunked + "a\r\n", errLimit},
		{ok + "\r\n0123456789", errLimit},
		{ok + "Content-Length: 10\r\n\r\n", errLimit},
		{ok + "ETag: a\r\nETag: b\r\n\r\n", errTwice},
		{ok + "Content-Length: x\r\n\r\n", errNumber},
		{ok + "Transfer-Encoding: x\r\n\r\n", errCoding},
		{ok + "Content-Range: x\r\n\r\n", errSpan},
		{ok + "Content-Range: bytes 2-1/3\r\n\r\n", errSpan},
		{ok + "Content-Range: bytes 0-1/x\r\n\r\n", errNumber},
		{ok + "Content-Length: 1\r\nTransfer-Encoding: chunked\r\n\r\n", errBoth},
		{"HTTP/1.1 206 \r\n\r\n", errNoRange},
		{"HTTP/1.1 206 \r\nContent-Range: bytes 0-1/3\r\nContent-Length: 1\r\n\r\na", errPart},
	} {
		err := read(api.Dial{Events: []api.Event{{What: api.Data, Data: c.text}}})
		var f *fault.Fault
		if !errors.As(err, &f) || f.What != errBroken || !errors.Is(err, c.reason) {
			t.Errorf("%.60q: got %v, want %v: %v", c.text, err, errBroken, c.reason)
		}
	}
}

func TestWrongHeadsAreFaultsBelow(t *testing.T) {
	err := read(api.Dial{Events: []api.Event{{What: api.Data, Data: "HTTP/1.1 404 \r\nContent-Range: bytes x-1/2\r\n\r\n"}}})
	for _, want := range []error{errBroken, errHead, errSpan, errNumber} {
		if !errors.Is(err, want) {
			t.Errorf("got %v, want %v in it", err, want)
		}
	}
}

func TestCutOffWrapsWhy(t *testing.T) {
	for _, c := range []struct {
		dial   api.Dial
		reason error
	}{
		{api.Dial{Refused: true}, errRefused},
		{api.Dial{}, errReset},
		{api.Dial{Events: []api.Event{{What: api.Reset}}}, errReset},
		{api.Dial{Events: []api.Event{{What: api.Close}}}, errClosed},
		{api.Dial{Events: []api.Event{{What: api.Close, Ticks: 10}}}, errLate},
		{api.Dial{Events: []api.Event{{What: api.Data, Data: "HTTP/1.1 200 \r\n\r\nabc"}}}, errReset},
	} {
		err := read(c.dial)
		var f *fault.Fault
		if !errors.As(err, &f) || f.What != errAgain || !errors.Is(err, c.reason) {
			t.Errorf("%v: got %v, want %v: %v", c.dial, err, errAgain, c.reason)
		}
	}
}
