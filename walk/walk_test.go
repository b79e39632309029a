package walk

import (
	"errors"
	"testing"

	"satchel/api"
	"satchel/fault"
	"satchel/mirrors"
)

// The promises are tested at the face (package satchel); here: what the errors wrap, and bodies that make no sense.

var (
	errSense = errors.New("no sense")
	errOther = errors.New("another sum")
)

func says(text string) api.Dial {
	return api.Dial{Events: []api.Event{{What: api.Data, Data: text}}}
}

func body(text string) api.Dial {
	return api.Dial{Events: []api.Event{{What: api.Data, Data: "HTTP/1.1 200 OK\r\n\r\n" + text}, {What: api.Close}}}
}

func judge(text string) error {
	switch text {
	case "good":
		return nil
	case "wrong":
		return fault.Of(ErrSum, errOther)
	}
	return fault.Of(errSense, nil)
}

func walkThrough(t *testing.T, list string, dials ...api.Dial) (string, int, error) {
	t.Helper()
	entries, err := mirrors.Parse(list)
	if err != nil {
		t.Fatal(err)
	}
	w := New(Plan{Entries: entries, Tries: 2, Deadline: 9, Limit: 9}, api.World{Dials: dials})
	found, err := w.Walk(Goal{Path: "/x", Judge: judge})
	return found, len(w.Done().Sent), err
}

func TestErrorsWrapWhy(t *testing.T) {
	busy, gone, moved := says("HTTP/1.1 503 \r\n\r\n"), says("HTTP/1.1 404 \r\n\r\n"), says("HTTP/1.1 301 \r\n\r\n")
	part := says("HTTP/1.1 206 \r\nContent-Range: bytes 0-0/1\r\nContent-Length: 1\r\n\r\nx")
	for _, c := range []struct {
		list   string
		dials  []api.Dial
		sent   int
		what   error
		reason error
	}{
		{"off", nil, 0, ErrOff, ErrOff},
		{"direct", nil, 0, ErrDirect, ErrDirect},
		{"a", nil, 2, ErrFailed, errTries},
		{"a", []api.Dial{busy, busy}, 2, ErrFailed, errAgain},
		{"a", []api.Dial{busy, moved}, 2, ErrFailed, errWrong},
		{"a", []api.Dial{says("x")}, 1, ErrFailed, errBroken},
		{"a", []api.Dial{part}, 1, ErrFailed, errRest},
		{"a,b", []api.Dial{gone, gone}, 2, ErrNotFound, errMissing},
		{"a|b", []api.Dial{moved, gone}, 2, ErrNotFound, errMissing},
		{"a|b", []api.Dial{body("wrong"), body("good")}, 1, ErrSum, errOther},
		{"a,b", []api.Dial{body("none"), body("good")}, 1, ErrFailed, errSense},
		{"a,b", []api.Dial{body("none"), body("good")}, 1, ErrFailed, errBroken},
		{"a|off", []api.Dial{body("none")}, 1, ErrOff, ErrOff},
	} {
		found, sent, err := walkThrough(t, c.list, c.dials...)
		var f *fault.Fault
		if found != "" || sent != c.sent || !errors.As(err, &f) || f.What != c.what || !errors.Is(err, c.reason) {
			t.Errorf("%q: %q, %d dials, %v, want %d, %v: %v", c.list, found, sent, err, c.sent, c.what, c.reason)
		}
	}
}

func TestBodiesWithoutSenseAreBroken(t *testing.T) {
	found, sent, err := walkThrough(t, "a|b", body("none"), body("good"))
	if found != "good" || sent != 2 || err != nil {
		t.Errorf("%q, %d dials, %v", found, sent, err)
	}
}

func TestWalksGoOnWithWhatIsLeft(t *testing.T) {
	entries, _ := mirrors.Parse("a")
	gone := says("HTTP/1.1 404 \r\n\r\n")
	w := New(Plan{Entries: entries, Tries: 2, Base: 2, Cap: 2, Deadline: 9, Limit: 9}, api.World{Dials: []api.Dial{{}, gone, {}, body("good")}, Draws: []int{1, 0}})
	if _, err := w.Walk(Goal{Path: "/x", Judge: judge}); !errors.Is(err, ErrNotFound) {
		t.Errorf("the first walk: %v", err)
	}
	if found, err := w.Walk(Goal{Path: "/y", Judge: judge}); found != "good" || err != nil {
		t.Errorf("the second walk: %q, %v", found, err)
	}
	done := w.Done()
	if len(done.Sent) != 4 || len(done.Waits) != 2 || done.Waits[0] != 2 || done.Waits[1] != 1 || done.Ticks != 3 {
		t.Errorf("both walks: %+v", done)
	}
}

func TestLeftoversAreReadAsTheyAreWritten(t *testing.T) {
	entries, _ := mirrors.Parse("a|b")
	for _, l := range []Leftover{{"a", "q", "x"}, {"b", "W/\"q r\"", "x\ny z\n"}, {"b", " ", "\n"}} {
		if got := ParseLeftover(l.Text(), entries); got != l {
			t.Errorf("%q is read as %q", l, got)
		}
	}
	if got := ParseLeftover("c q\nx", entries); got != (Leftover{}) {
		t.Errorf("a leftover of no entry is read as %q", got)
	}
}
