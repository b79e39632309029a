package satchel_test

import (
	"fmt"
	"slices"
	"testing"

	"satchel/api"
)

// A rest is a Fetch of an archive with one try for each mirror.
type rest struct {
	what  string
	list  string
	left  string // the leftover's file; "-": none
	dials []api.Dial
	want  api.Errno
	sent  []api.Sent
	steps []api.Step
}

func plainSent(mirror string) api.Sent {
	return api.Sent{Mirror: mirror, Request: plainRequest(zipKey, mirror)}
}

func restSent(mirror string, bytes int, tag string) api.Sent {
	return api.Sent{Mirror: mirror, Request: restRequest(zipKey, mirror, bytes, tag)}
}

func checkRest(t *testing.T, c rest) {
	t.Helper()
	var files []api.File
	if c.left != "-" {
		files = append(files, leftFile(zipKey, c.left))
	}
	x := newClient(t, configOf(t, c.list, 1), files...)
	o := x.Fetch(zipKey, world(c.dials...))
	if o.Err != c.want || !slices.Equal(o.Sent, c.sent) || !slices.Equal(o.Steps, c.steps) {
		t.Errorf("P10: %s, with the leftover %q:\n got %s,\nwant %d, %s, %s", c.what, c.left, show(o), c.want, show(c.sent), show(c.steps))
	}
}

func TestRestsOfOneReply(t *testing.T) {
	zip := contentOf(zipKey)
	n := len(zip)
	left := "a q\n" + zip[:20]
	asked := []api.Sent{restSent("a", 20, "q")}
	plain := []api.Sent{plainSent("a")}
	install := append(installSteps(zipKey, zip), dropStep(zipKey))
	to := func(text string) []api.Step { return []api.Step{leftStep(zipKey, text)} }
	drop := []api.Step{dropStep(zipKey)}
	part := func(tag string, first int, behind int, came int) []api.Dial {
		return []api.Dial{partDial(tag, zip, first, behind, came)}
	}
	cut := func(tag string, came int) []api.Dial { return []api.Dial{cutDial(tag, zip, came)} }
	for _, c := range []rest{
		{what: "the rest", left: left, dials: part("q", 20, n, n), sent: asked, steps: install},
		{what: "all of it", left: left, dials: []api.Dial{wholeDial(zip)}, sent: asked, steps: install},
		{what: "all of it, wrong", left: left, dials: []api.Dial{wholeDial("x")}, want: api.ErrSum, sent: asked, steps: drop},
		{what: "a part of the rest", left: left, dials: part("q", 20, 30, 30), want: api.ErrFailed, sent: asked, steps: to("a q\n" + zip[:30])},
		{what: "one byte of the rest", left: left, dials: part("q", 20, 21, 21), want: api.ErrFailed, sent: asked, steps: to("a q\n" + zip[:21])},
		{what: "all but one byte of the rest", left: left, dials: part("q", 20, n-1, n-1), want: api.ErrFailed, sent: asked, steps: to("a q\n" + zip[:n-1])},
		{what: "a rest that is cut off", left: left, dials: part("q", 20, n, 33), want: api.ErrFailed, sent: asked, steps: to("a q\n" + zip[:33])},
		{what: "a rest that is cut off at once", left: left, dials: part("q", 20, n, 20), want: api.ErrFailed, sent: asked},
		{what: "a rest from another place", left: left, dials: part("q", 19, n, n), want: api.ErrFailed, sent: asked},
		{what: "a rest from a later place", left: left, dials: part("q", 21, n, n), want: api.ErrFailed, sent: asked},
		{what: "a rest from the beginning", left: left, dials: part("q", 0, n, n), want: api.ErrFailed, sent: asked},
		{what: "a rest of another tag", left: left, dials: part("r", 20, n, n), want: api.ErrFailed, sent: asked},
		{what: "a rest of a capital tag", left: left, dials: part("Q", 20, n, n), want: api.ErrFailed, sent: asked},
		{what: "a rest without a tag", left: left, dials: part("", 20, n, n), want: api.ErrFailed, sent: asked},
		{what: "a rest of another tag that is cut off", left: left, dials: part("r", 20, n, 33), want: api.ErrFailed, sent: asked},
		{what: "a rest from another place that is cut off", left: left, dials: part("q", 19, n, 33), want: api.ErrFailed, sent: asked},
		{what: "gone", left: left, dials: []api.Dial{goneDial}, want: api.ErrNotFound, sent: asked},
		{what: "busy", left: left, dials: []api.Dial{busyDial}, want: api.ErrFailed, sent: asked},
		{what: "refused", left: left, want: api.ErrFailed, sent: asked},
		{what: "moved", left: left, dials: []api.Dial{movedDial}, want: api.ErrFailed, sent: asked},
		{what: "busy with a tag and bytes", left: left, dials: []api.Dial{saying("HTTP/1.1 503 x\r\nETag: r\r\n\r\nabc")}, want: api.ErrFailed, sent: asked},
		{what: "all of it, cut off", left: left, dials: cut("r", 9), want: api.ErrFailed, sent: asked, steps: to("a r\n" + zip[:9])},
		{what: "all of it, cut off earlier", left: left, dials: cut("q", 9), want: api.ErrFailed, sent: asked, steps: to("a q\n" + zip[:9])},
		{what: "all of it, cut off there", left: left, dials: cut("q", 20), want: api.ErrFailed, sent: asked},
		{what: "all of it, cut off without a tag", left: left, dials: cut("", 30), want: api.ErrFailed, sent: asked},
		{what: "all of it, cut off without a byte", left: left, dials: cut("r", 0), want: api.ErrFailed, sent: asked},
		{what: "wrong bytes made whole", left: "a q\nwrong", dials: part("q", 5, n, n), want: api.ErrSum, sent: []api.Sent{restSent("a", 5, "q")}, steps: drop},
		{what: "a rest that nobody asked for", left: "-", dials: part("q", 0, n, n), want: api.ErrFailed, sent: plain},
		{what: "a rest that nobody asked for, cut off", left: "-", dials: part("q", 0, n, 30), want: api.ErrFailed, sent: plain},
		{what: "a beginning", left: "-", dials: cut("q", 30), want: api.ErrFailed, sent: plain, steps: to("a q\n" + zip[:30])},
		{what: "one byte", left: "-", dials: cut("q", 1), want: api.ErrFailed, sent: plain, steps: to("a q\n" + zip[:1])},
		{what: "all bytes but no end", left: "-", dials: []api.Dial{saying(ok200 + "ETag: q\r\n\r\n" + zip)}, want: api.ErrFailed, sent: plain, steps: to("a q\n" + zip)},
		{what: "a beginning without a tag", left: "-", dials: cut("", 30), want: api.ErrFailed, sent: plain},
		{what: "a beginning without a byte", left: "-", dials: cut("q", 0), want: api.ErrFailed, sent: plain},
		{what: "a head that is cut off", left: "-", dials: []api.Dial{saying(ok200 + "ETag: q\r\n\r")}, want: api.ErrFailed, sent: plain},
		{what: "a tag with blanks", left: "-", dials: cut("W/\"a b\"  ", 30), want: api.ErrFailed, sent: plain, steps: to("a W/\"a b\"\n" + zip[:30])},
		{what: "the rest of a tag with blanks", left: "a W/\"a b\"\n" + zip[:30], dials: part("W/\"a b\"", 30, n, n), sent: []api.Sent{restSent("a", 30, "W/\"a b\"")}, steps: install},
	} {
		c.list = "a"
		checkRest(t, c)
	}
}

func TestWhatIsALeftover(t *testing.T) {
	zip := contentOf(zipKey)
	install := append(installSteps(zipKey, zip), dropStep(zipKey))
	good := []api.Dial{wholeDial(zip)}
	for _, text := range []string{"", "\n", " ", "a", "a ", "a\n", "a q", "a q\n", "a \n", "a \nxyz", " q\nxyz", "a\nxyz", "a\n q\nxyz", "aq\nxyz", "z q\nxyz", "A q\nxyz", "ab q\nxyz", "\na q\nxyz", " a q\nxyz", "a|b q\nxyz", "\nxyz", "q\nxyz"} {
		checkRest(t, rest{what: "no leftover", list: "a|b", left: text, dials: good, sent: []api.Sent{plainSent("a")}, steps: install})
	}
	for _, c := range []struct{ text, tag, bytes string }{
		{"a q\nx", "q", "x"},
		{"a q\n\n", "q", "\n"},
		{"a q\nx\ny z\n", "q", "x\ny z\n"},
		{"a q r\nx", "q r", "x"},
		{"a  \nx", " ", "x"},
		{"a  q\nx", " q", "x"},
		{"a q\r\nx", "q\r", "x"},
		{"a \x00\xff\n\x00", "\x00\xff", "\x00"},
		{"a a q\nx", "a q", "x"},
	} {
		sent := []api.Sent{{Mirror: "a", Request: restRequest(zipKey, "a", len(c.bytes), c.tag)}}
		checkRest(t, rest{what: "a leftover", list: "a|b", left: c.text, dials: good, sent: sent, steps: install})
	}
}

func TestLeftoversOfOtherMirrors(t *testing.T) {
	zip := contentOf(zipKey)
	n := len(zip)
	left := "b q\n" + zip[:20]
	install := append(installSteps(zipKey, zip), dropStep(zipKey))
	restDial := partDial("q", zip, 20, n, n)
	for _, c := range []rest{
		{what: "of the second", list: "a,b", left: left, dials: []api.Dial{goneDial, restDial}, sent: []api.Sent{plainSent("a"), restSent("b", 20, "q")}, steps: install},
		{what: "of the second, from the first", list: "a,b", left: left, dials: []api.Dial{restDial}, want: api.ErrFailed, sent: []api.Sent{plainSent("a")}},
		{what: "of the second, all from the first", list: "a,b", left: left, dials: []api.Dial{wholeDial(zip)}, sent: []api.Sent{plainSent("a")}, steps: install},
		{what: "of the second, another from the first", list: "a|b", left: left, dials: []api.Dial{cutDial("q", zip, 20), restDial}, want: api.ErrFailed,
			sent: []api.Sent{plainSent("a"), plainSent("b")}, steps: []api.Step{leftStep(zipKey, "a q\n"+zip[:20])}},
		{what: "of one that is there twice", list: "b|c|b", left: "-", dials: []api.Dial{cutDial("q", zip, 20), busyDial, restDial},
			sent: []api.Sent{plainSent("b"), plainSent("c"), restSent("b", 20, "q")}, steps: append([]api.Step{leftStep(zipKey, left)}, install...)},
		{what: "from one to the other", list: "a|b|a|b", left: "-", dials: []api.Dial{cutDial("q", zip, 20), cutDial("q", zip, 20), cutDial("q", zip, 20), restDial}, want: api.ErrFailed,
			sent: []api.Sent{plainSent("a"), plainSent("b"), plainSent("a"), plainSent("b")}, steps: []api.Step{leftStep(zipKey, "a q\n"+zip[:20]), leftStep(zipKey, left), leftStep(zipKey, "a q\n"+zip[:20])}},
		{what: "of off", list: "a|off", left: "off q\n" + zip[:20], dials: []api.Dial{brokenDial}, want: api.ErrOff, sent: []api.Sent{plainSent("a")}},
	} {
		checkRest(t, c)
	}
}

func TestRestsThatAreTooLong(t *testing.T) {
	zip := contentOf(zipKey)
	// Cut off, and so not held against its own range: T alone says how many bytes there can be.
	overlong := func(total int) api.Dial {
		return saying(fmt.Sprintf("%sETag: q\r\nContent-Length: 900\r\nContent-Range: bytes 20-20/%d\r\n\r\n%s", ok206, total, zip[20:30]))
	}
	asked := []api.Sent{restSent("a", 20, "q")}
	left := "a q\n" + zip[:20]
	changed := []api.Step{leftStep(zipKey, "a q\n"+zip[:30])}
	checkRest(t, rest{what: "more room", list: "a", left: left, dials: []api.Dial{overlong(31)}, want: api.ErrFailed, sent: asked, steps: changed})
	checkRest(t, rest{what: "just enough room", list: "a", left: left, dials: []api.Dial{overlong(30)}, want: api.ErrFailed, sent: asked, steps: changed})
	checkRest(t, rest{what: "too little room", list: "a", left: left, dials: []api.Dial{overlong(29)}, want: api.ErrFailed, sent: asked})
	// The same with tries left: what counts as Again is tried again, what is Broken is not.
	for total, dialled := range map[int]string{31: "a a", 30: "a a", 29: "a"} {
		o := newClient(t, configOf(t, "a", 2), leftFile(zipKey, left)).Fetch(zipKey, world(overlong(total)))
		if mirrorsOf(o) != dialled {
			t.Errorf("P10: a rest of %d bytes in all: dialled %q, want %q", total, mirrorsOf(o), dialled)
		}
	}
}

func TestRestsComeTogether(t *testing.T) {
	zip := contentOf(zipKey)
	n := len(zip)
	config := configOf(t, "a", 5)
	x := newClient(t, config)
	o := x.Fetch(zipKey, world(refusedDial, cutDial("q", zip, 20), partDial("q", zip, 20, n, 25), partDial("q", zip, 25, 60, 60), partDial("q", zip, 60, n, n)))
	write := func(bytes int) api.Step { return leftStep(zipKey, "a q\n"+zip[:bytes]) }
	checkOutcome(t, "rests", o, api.Outcome{
		Sent:  []api.Sent{plainSent("a"), plainSent("a"), restSent("a", 20, "q"), restSent("a", 25, "q"), restSent("a", 60, "q")},
		Waits: []int{2, 3, 5, 5},
		Steps: append(append([]api.Step{write(20), write(25), write(60)}, installSteps(zipKey, zip)...), dropStep(zipKey)),
		Ticks: 4 + 15,
	})
	checkLookup(t, "rests", x, zipKey, zip, api.OK)

	// From call to call, and from client to client.
	config.Tries = 1
	x = newClient(t, config)
	x.Fetch(zipKey, world(cutDial("q", zip, 20)))
	x.Fetch(zipKey, world(goneDial))
	x.Fetch(headKey, world(wholeDial(contentOf(headKey))))
	x.Fetch(otherZip, world(cutDial("r", contentOf(otherZip), 30)))
	o = x.Fetch(zipKey, world(partDial("q", zip, 20, 60, 60)))
	checkOutcome(t, "from call to call", o, api.Outcome{Err: api.ErrFailed, Sent: []api.Sent{restSent("a", 20, "q")}, Steps: []api.Step{write(60)}, Ticks: 1})
	y := newClient(t, config, api.File{Name: o.Steps[0].Name, Data: o.Steps[0].Data})
	o = y.Fetch(zipKey, world(partDial("q", zip, 60, n, n)))
	checkOutcome(t, "from client to client", o, api.Outcome{Sent: []api.Sent{restSent("a", 60, "q")}, Steps: append(installSteps(zipKey, zip), dropStep(zipKey)), Ticks: 1})

	// All bytes without an end: their rest is nothing that a mirror could send.
	x = newClient(t, config)
	x.Fetch(zipKey, world(saying(ok200+"ETag: q\r\n\r\n"+zip)))
	o = x.Fetch(zipKey, world(wholeDial(zip)))
	checkOutcome(t, "all bytes", o, api.Outcome{Sent: []api.Sent{restSent("a", n, "q")}, Steps: append(installSteps(zipKey, zip), dropStep(zipKey)), Ticks: 1})
}

func TestWrongRestsAreForgotten(t *testing.T) {
	zip := contentOf(zipKey)
	x := newClient(t, configOf(t, "a", 3))
	wrong := "?" + zip[1:]
	o := x.Fetch(zipKey, world(cutDial("q", wrong, 20), partDial("q", wrong, 20, len(zip), len(zip))))
	checkOutcome(t, "a wrong rest", o, api.Outcome{Err: api.ErrSum, Sent: []api.Sent{plainSent("a"), restSent("a", 20, "q")}, Waits: []int{2},
		Steps: []api.Step{leftStep(zipKey, "a q\n"+wrong[:20]), dropStep(zipKey)}, Ticks: 4})
	o = x.Fetch(zipKey, world(wholeDial(zip)))
	checkOutcome(t, "behind a wrong rest", o, api.Outcome{Sent: []api.Sent{plainSent("a")}, Steps: installSteps(zipKey, zip), Ticks: 1})
}
