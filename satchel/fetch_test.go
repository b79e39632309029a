package satchel_test

import (
	"fmt"
	"math/rand"
	"slices"
	"strings"
	"testing"

	"satchel/api"
	"satchel/satchel"
)

// checkWalk fetches a head, of which no leftover is kept: so its requests are all alike, and there are no steps but those of an installation.
func checkWalk(t *testing.T, c api.Config, w api.World, wantErr api.Errno, dialled string, waits ...int) {
	t.Helper()
	x := newClient(t, c)
	o := x.Fetch(headKey, w)
	if o.Err != wantErr || mirrorsOf(o) != dialled || !slices.Equal(o.Waits, waits) {
		t.Errorf("P10: %q, %d tries: %d, dialled %q, waits %v, want %d, %q, %v", c.Mirrors, c.Tries, o.Err, mirrorsOf(o), o.Waits, wantErr, dialled, waits)
	}
	for _, s := range o.Sent {
		if s.Request != plainRequest(headKey, s.Mirror) {
			t.Errorf("P10: the request %q", s.Request)
		}
	}
	if wantErr == api.OK {
		if !slices.Equal(o.Steps, installSteps(headKey, contentOf(headKey))) {
			t.Errorf("P10: the steps %s", show(o.Steps))
		}
		checkLookup(t, "behind a walk", x, headKey, contentOf(headKey), api.OK)
		checkOutcome(t, "once more", x.Fetch(headKey, w), api.Outcome{})
		return
	}
	if len(o.Steps) != 0 {
		t.Errorf("P10: %q: the steps %s", c.Mirrors, show(o.Steps))
	}
	checkLookup(t, "behind a walk", x, headKey, "", api.ErrNone)
}

func TestWalksOfLists(t *testing.T) {
	good, bad := wholeDial(contentOf(headKey)), wholeDial("another head")
	for _, c := range []struct {
		list    string
		tries   int
		dials   []api.Dial
		want    api.Errno
		dialled string
		waits   []int
	}{
		{"a", 1, []api.Dial{good}, api.OK, "a", nil},
		{"a", 1, []api.Dial{bad, good}, api.ErrSum, "a", nil},
		{"a|b", 5, []api.Dial{bad, good}, api.ErrSum, "a", nil},
		{"a,b", 5, []api.Dial{bad, good}, api.ErrSum, "a", nil},
		{"a,b|c", 2, []api.Dial{goneDial, busyDial, refusedDial, good}, api.OK, "a b b c", []int{2}},
		{"a,b", 5, []api.Dial{brokenDial, good}, api.ErrFailed, "a", nil},
		{"a|off", 5, []api.Dial{brokenDial, good}, api.ErrOff, "a", nil},
		{"a|direct", 5, []api.Dial{movedDial, good}, api.ErrDirect, "a", nil},
		{"a,off", 5, []api.Dial{brokenDial, good}, api.ErrFailed, "a", nil},
		{"a,off", 5, []api.Dial{goneDial, good}, api.ErrOff, "a", nil},
		{"a|direct,b", 5, []api.Dial{goneDial, good}, api.ErrDirect, "a", nil},
		{"off", 5, []api.Dial{good}, api.ErrOff, "", nil},
		{"direct|a", 5, []api.Dial{good}, api.ErrDirect, "", nil},
		{"off,direct", 5, nil, api.ErrOff, "", nil},
		{"direct|off", 5, nil, api.ErrDirect, "", nil},
		{"offf,directs", 1, []api.Dial{goneDial, good}, api.OK, "offf directs", nil},
		{"a", 1, []api.Dial{goneDial, good}, api.ErrNotFound, "a", nil},
		{"a", 5, []api.Dial{goneDial, good}, api.ErrNotFound, "a", nil},
		{"a,b|c", 1, []api.Dial{goneDial, goneDial, goneDial}, api.ErrNotFound, "a b c", nil},
		{"a|b", 1, []api.Dial{brokenDial, goneDial}, api.ErrNotFound, "a b", nil},
		{"a|b", 1, []api.Dial{goneDial, brokenDial}, api.ErrFailed, "a b", nil},
		{"a,b", 1, []api.Dial{goneDial, movedDial}, api.ErrFailed, "a b", nil},
		{"a|b,c", 1, []api.Dial{brokenDial, brokenDial, good}, api.ErrFailed, "a b", nil},
		{"a,b|c", 1, []api.Dial{brokenDial, good}, api.ErrFailed, "a", nil},
		{"a|b|c", 1, nil, api.ErrFailed, "a b c", nil},
		{"a,b|c", 1, nil, api.ErrFailed, "a", nil},
		{"a|a|a", 1, []api.Dial{busyDial, busyDial, good}, api.OK, "a a a", nil},
		{"a|a", 2, []api.Dial{busyDial, busyDial, busyDial, good}, api.OK, "a a a a", []int{2, 2}},
		{"a", 3, []api.Dial{busyDial, busyDial, good}, api.OK, "a a a", []int{2, 3}},
		{"a", 3, []api.Dial{busyDial, refusedDial, saying("HTTP/1.1 429 x\r\n\r\n"), good}, api.ErrFailed, "a a a", []int{2, 3}},
		{"a", 3, []api.Dial{busyDial, goneDial, good}, api.ErrNotFound, "a a", []int{2}},
		{"a|b", 3, []api.Dial{busyDial, brokenDial, good}, api.OK, "a a b", []int{2}},
		{"a|b", 3, []api.Dial{busyDial, movedDial, good}, api.OK, "a a b", []int{2}},
		{"a", 3, []api.Dial{busyDial, bad, good}, api.ErrSum, "a a", []int{2}},
		{"a,b,c,d,e,f", 1, []api.Dial{goneDial, goneDial, goneDial, goneDial, goneDial, good}, api.OK, "a b c d e f", nil},
		// Parts of what nobody has the beginning of: no try more, however they end.
		{"a|b", 5, []api.Dial{partDial("q", contentOf(headKey), 0, 5, 5), good}, api.OK, "a b", nil},
		{"a|b", 5, []api.Dial{partDial("q", contentOf(headKey), 0, 5, 3), good}, api.OK, "a b", nil},
		{"a|b", 5, []api.Dial{partDial("q", contentOf(headKey), 0, len(contentOf(headKey)), len(contentOf(headKey))), good}, api.OK, "a b", nil},
		// No leftovers of heads.
		{"a", 5, []api.Dial{cutDial("q", contentOf(headKey), 4), partDial("q", contentOf(headKey), 4, len(contentOf(headKey)), len(contentOf(headKey))), good}, api.ErrFailed, "a a", []int{2}},
		{"a", 5, []api.Dial{cutDial("q", contentOf(headKey), 4), good}, api.OK, "a a", []int{2}},
	} {
		checkWalk(t, configOf(t, c.list, c.tries), world(c.dials...), c.want, c.dialled, c.waits...)
	}
}

func TestWalksOfEveryStatus(t *testing.T) {
	good := wholeDial(contentOf(headKey))
	for status := 100; status < 600; status++ {
		d := saying(fmt.Sprintf("HTTP/1.1 %d x\r\n\r\n", status))
		c := configOf(t, "a,b", 2)
		switch {
		case status == 404 || status == 410:
			checkWalk(t, c, world(d, good), api.OK, "a b")
		case status == 429 || status >= 500:
			checkWalk(t, c, world(d, good), api.OK, "a a", 2)
			checkWalk(t, c, world(d, d, good), api.ErrFailed, "a a", 2)
		case status == 200:
			// A body to the end, that breaks off.
			checkWalk(t, c, world(d, good), api.OK, "a a", 2)
		default:
			checkWalk(t, c, world(d, good), api.ErrFailed, "a")
		}
	}
}

func TestWaits(t *testing.T) {
	for _, c := range []struct {
		base, most int
		draws      []int
		waits      []int
	}{
		{3, 10, nil, []int{2, 3, 5, 5}},
		{3, 10, []int{1, 1, 1, 1}, []int{3, 4, 6, 6}},
		{3, 10, []int{5, 5, 5, 5}, []int{3, 4, 10, 10}},
		{3, 10, []int{0, 0, 0, 1, 9}, []int{2, 3, 5, 6}},
		{3, 10, []int{1, 1}, []int{3, 4, 5, 5}},
		{3, 10, []int{-1, -1 << 63, -2, -3}, []int{2, 3, 5, 5}},
		{3, 10, []int{1<<63 - 1, 1<<63 - 1, 1<<63 - 1, 1 << 62}, []int{3, 3 + (1<<63-1)%4, 5 + (1<<63-1)%6, 5 + (1<<62)%6}},
		{0, 0, []int{1, 2, 3, 4}, []int{0, 0, 0, 0}},
		{0, 10, []int{1, 2, 3, 4}, []int{0, 0, 0, 0}},
		{10, 0, []int{1, 2, 3, 4}, []int{0, 0, 0, 0}},
		{1, 1, []int{1, 2, 3, 4}, []int{1, 1, 1, 1}},
		{1, 100000, []int{0, 1, 2, 4}, []int{1, 2, 4, 8}},
		{10, 3, []int{1, 0, 3, 2}, []int{3, 2, 3, 2}},
		{100000, 100000, []int{0, 50000, 50001, 100002}, []int{50000, 100000, 50000, 50000}},
		{99999, 100000, []int{49999, 50000}, []int{99999, 100000, 50000, 50000}},
		{7, 27, []int{3, 7, 13, 13}, []int{7, 14, 27, 27}},
		{7, 28, []int{3, 7, 14, 14}, []int{7, 14, 28, 28}},
	} {
		config := configOf(t, "a", 5)
		config.Base, config.Cap = c.base, c.most
		o := newClient(t, config).Fetch(headKey, api.World{Draws: c.draws})
		ticks := 0
		for _, wait := range c.waits {
			ticks += wait
		}
		if o.Err != api.ErrFailed || !slices.Equal(o.Waits, c.waits) || o.Ticks != ticks {
			t.Errorf("P10: Base %d, Cap %d, draws %v: %d, waits %v, ticks %d, want %v, %d", c.base, c.most, c.draws, o.Err, o.Waits, o.Ticks, c.waits, ticks)
		}
	}
	// Each entry begins anew with Base; the draws do not.
	checkWalk(t, configOf(t, "a|b|a", 3), api.World{Draws: []int{0, 1, 1, 0, 1, 3}}, api.ErrFailed, "a a a b b b a a a", 2, 4, 3, 3, 3, 6)
}

func TestTicksOfWalks(t *testing.T) {
	good := contentOf(headKey)
	late := dialOf(dataEvent(5, ok200), dataEvent(5, "Content-Length: 1\r\n\r\n"))
	paced := dialOf(dataEvent(2, ok200), dataEvent(-7, "Content-"), dataEvent(3, fmt.Sprintf("Length: %d\r\n\r\n", len(good))), dataEvent(4, good), resetEvent(50))
	for _, c := range []struct {
		dials []api.Dial
		want  api.Errno
		ticks int
	}{
		{nil, api.ErrFailed, 2},
		{[]api.Dial{paced}, api.OK, 9},
		{[]api.Dial{late, paced}, api.OK, 9 + 2 + 9},
		{[]api.Dial{late, late}, api.ErrFailed, 9 + 2 + 9},
		{[]api.Dial{refusedDial, late}, api.ErrFailed, 2 + 9},
		{[]api.Dial{busyDial, goneDial}, api.ErrNotFound, 1 + 2 + 1},
		{[]api.Dial{movedDial}, api.ErrFailed, 1},
		{[]api.Dial{brokenDial}, api.ErrFailed, 1},
		{[]api.Dial{wholeDial("x")}, api.ErrSum, 1},
	} {
		if o := newClient(t, configOf(t, "a", 2)).Fetch(headKey, world(c.dials...)); o.Err != c.want || o.Ticks != c.ticks {
			t.Errorf("P10: %v: %d, %d ticks, want %d, %d", c.dials, o.Err, o.Ticks, c.want, c.ticks)
		}
	}
}

func TestFetchMinds(t *testing.T) {
	good := contentOf(headKey)
	c := configOf(t, "a", 1)
	c.Limit = len(good)
	checkWalk(t, c, world(wholeDial(good)), api.OK, "a")
	c.Limit--
	checkWalk(t, c, world(wholeDial(good)), api.ErrFailed, "a")
	c = configOf(t, "a", 1)
	c.Deadline = 1
	checkWalk(t, c, world(wholeDial(good)), api.OK, "a")
	c.Deadline = 0
	checkWalk(t, c, world(wholeDial(good)), api.ErrFailed, "a")
}

func TestFetchRefuses(t *testing.T) {
	x := newClient(t, configOf(t, "a", 1))
	for _, c := range noKeys {
		checkOutcome(t, fmt.Sprint(c.key), x.Fetch(c.key, world(wholeDial(contentOf(headKey)))), api.Outcome{Err: c.want})
	}
	for _, text := range longTexts() {
		checkOutcome(t, "a long name", x.Fetch(api.Key{Kind: 1, Name: text, Version: "v1.0.0"}, api.World{}), api.Outcome{Err: api.ErrName})
		checkOutcome(t, "a long version", x.Fetch(api.Key{Kind: 2, Name: "x", Version: text}, api.World{}), api.Outcome{Err: api.ErrVersion})
	}
}

func TestFetchOfWhatIsThere(t *testing.T) {
	for _, k := range someKeys {
		x := newClient(t, configOf(t, "a", 1), cacheFile(k, contentOf(k)), leftFile(k, "a q\nx"))
		checkOutcome(t, "what is there", x.Fetch(k, world(wholeDial("x"))), api.Outcome{})
		checkLookup(t, "what is there", x, k, contentOf(k), api.OK)
	}
}

func TestFetchInThePlaceOfWrongBytes(t *testing.T) {
	for _, k := range someKeys {
		x := newClient(t, configOf(t, "a", 1), cacheFile(k, contentOf(k)+"x"))
		request := []api.Sent{{Mirror: "a", Request: plainRequest(k, "a")}}
		checkOutcome(t, "no better bytes", x.Fetch(k, world(wholeDial("x"))), api.Outcome{Err: api.ErrSum, Sent: request, Ticks: 1})
		checkLookup(t, "no better bytes", x, k, "", api.ErrNone)
		checkOutcome(t, "better bytes", x.Fetch(k, world(wholeDial(contentOf(k)))), api.Outcome{Sent: request, Steps: installSteps(k, contentOf(k)), Ticks: 1})
		checkLookup(t, "better bytes", x, k, contentOf(k), api.OK)
	}
}

func TestFetchRemovesFilesOfLeftovers(t *testing.T) {
	for _, k := range someKeys {
		// What is no leftover is a file all the same; a head has no leftover, but may have the file.
		for _, text := range []string{"", "x", "z q\nabc", "a \nabc", "a q\n"} {
			sent := []api.Sent{{Mirror: "a", Request: plainRequest(k, "a")}}
			x := newClient(t, configOf(t, "a", 1), leftFile(k, text))
			checkOutcome(t, "gone", x.Fetch(k, world(goneDial)), api.Outcome{Err: api.ErrNotFound, Sent: sent, Ticks: 1})
			checkOutcome(t, "broken", x.Fetch(k, world(brokenDial)), api.Outcome{Err: api.ErrFailed, Sent: sent, Ticks: 1})
			checkOutcome(t, "wrong", x.Fetch(k, world(wholeDial("x"))), api.Outcome{Err: api.ErrSum, Sent: sent, Steps: []api.Step{dropStep(k)}, Ticks: 1})
			checkOutcome(t, "wrong again", x.Fetch(k, world(wholeDial("x"))), api.Outcome{Err: api.ErrSum, Sent: sent, Ticks: 1})
			x = newClient(t, configOf(t, "a", 1), leftFile(k, text))
			checkOutcome(t, "good", x.Fetch(k, world(wholeDial(contentOf(k)))), api.Outcome{Sent: sent, Steps: append(installSteps(k, contentOf(k)), dropStep(k)), Ticks: 1})
		}
	}
	x := newClient(t, configOf(t, "a", 1), leftFile(headKey, "a q\n"+contentOf(headKey)[:3]))
	want := api.Outcome{Sent: []api.Sent{{Mirror: "a", Request: plainRequest(headKey, "a")}}, Steps: append(installSteps(headKey, contentOf(headKey)), dropStep(headKey)), Ticks: 1}
	checkOutcome(t, "a leftover of a head", x.Fetch(headKey, world(wholeDial(contentOf(headKey)))), want)
}

func TestFetchOfArchivesThatAreNone(t *testing.T) {
	right := contentOf(zipKey)
	for _, body := range []string{"", "x", right[1:], right + "x", contentOf(otherZip), contentOf(headKey)} {
		x := newClient(t, configOf(t, "a|b", 1))
		sent := []api.Sent{{Mirror: "a", Request: plainRequest(zipKey, "a")}}
		checkOutcome(t, "no archive", x.Fetch(zipKey, world(wholeDial(body), wholeDial(right))), api.Outcome{Err: api.ErrSum, Sent: sent, Ticks: 1})
	}
}

// checkAsSlow fetches by chance, on a client and a slow one, and holds what they answer against each other.
func checkAsSlow(t *testing.T, c chance, config api.Config) {
	t.Helper()
	files := c.files()
	x, slow := newClient(t, config, files...), newSlowClient(config, files)
	for range 4 {
		k := c.key()
		w := c.world(k)
		before := show(w)
		want := slow.fetch(k, w)
		if got := x.Fetch(k, w); !same(got, want) {
			t.Fatalf("P10: %+v: Fetch(%v, %s):\n got %s,\nwant %s", config, k, show(w), show(got), show(want))
		}
		if show(w) != before {
			t.Errorf("P2: Fetch changed its world")
		}
		checkBounds(t, config, want)
		for _, k := range someKeys {
			data, e := slow.lookup(k)
			checkLookup(t, "behind Fetch", x, k, data, e)
		}
	}
}

// checkBounds is P13's second half.
func checkBounds(t *testing.T, c api.Config, o api.Outcome) {
	t.Helper()
	most := (1 + strings.Count(c.Mirrors, ",") + strings.Count(c.Mirrors, "|")) * c.Tries
	if len(o.Sent) > most || o.Ticks > most*(c.Deadline+c.Cap) {
		t.Errorf("P13: %+v: %d dials, %d ticks", c, len(o.Sent), o.Ticks)
	}
}

func TestFetchByChance(t *testing.T) {
	c := chance{rand.New(rand.NewSource(4))}
	table := configOf(t, "a", 1).Sums
	for range 4000 {
		checkAsSlow(t, c, c.config(table))
	}
	// Many tries, few other ends: so that rests come together.
	for range 2500 {
		config := c.config(table)
		config.Mirrors, config.Tries, config.Limit, config.Deadline = c.of("a", "a|a", "a|b|a"), 5, 1000, 12
		checkAsSlow(t, c, config)
	}
}

func TestBoundsAreReached(t *testing.T) {
	config := configOf(t, "a|b|c|d|e|f", 5)
	config.Base, config.Cap, config.Deadline, config.Limit = 100000, 100000, 100000, 4000
	var w api.World
	for range 40 {
		w.Dials = append(w.Dials, dialOf(closeEvent(1<<63-1)))
		w.Draws = append(w.Draws, 50000)
	}
	o := newClient(t, config).Fetch(headKey, w)
	if o.Err != api.ErrFailed || len(o.Sent) != 30 || len(o.Waits) != 24 || o.Ticks != 54*100000 {
		t.Errorf("P13: %d dials, %d waits, %d ticks", len(o.Sent), len(o.Waits), o.Ticks)
	}
	checkBounds(t, config, o)
}

func TestFetchOfLongWorlds(t *testing.T) {
	many := make([]api.Dial, 300000)
	events := make([]api.Event, 300000)
	for i := range events {
		many[i] = busyDial
		events[i] = dataEvent(-1<<63, "")
	}
	long := dialOf(append(events, dataEvent(1, ok200+fmt.Sprintf("Content-Length: %d\r\n\r\n", len(contentOf(headKey)))+contentOf(headKey)+strings.Repeat("x", 3000000)))...)
	checkWalk(t, configOf(t, "a", 2), api.World{Dials: append([]api.Dial{busyDial, long}, many...), Draws: make([]int, 300000)}, api.OK, "a a", 2)
	checkWalk(t, configOf(t, "a|b", 2), api.World{Dials: many, Draws: make([]int, 300000)}, api.ErrFailed, "a a b b", 2, 2)
}

func TestClientsDoNotShare(t *testing.T) {
	config := configOf(t, "a", 1)
	x, y := newClient(t, config), newClient(t, config)
	x.Fetch(headKey, world(wholeDial(contentOf(headKey))))
	x.Fetch(zipKey, world(cutDial("q", contentOf(zipKey), 9)))
	checkLookup(t, "the other client", y, headKey, "", api.ErrNone)
	if o := y.Fetch(zipKey, api.World{}); o.Sent[0].Request != plainRequest(zipKey, "a") {
		t.Errorf("P2: the request %q", o.Sent[0].Request)
	}
}

func TestClientsKeepNothingThatWasHandedIn(t *testing.T) {
	var spoils []func()
	lent := func(s string) string {
		text, spoil := lend(s)
		spoils = append(spoils, spoil)
		return text
	}
	right := configOf(t, "aa|bb", 1)
	config := right
	config.Mirrors, config.Sums = lent(right.Mirrors), lent(right.Sums)
	body, zip := contentOf(headKey), contentOf(zipKey)
	files := []api.File{
		{Name: lent("c/" + tailOf(headKey)), Data: lent(body)},
		{Name: lent("p/" + tailOf(zipKey)), Data: lent("bb tag\n" + zip[:30])},
		{Name: lent("t/x"), Data: lent("y")},
	}
	x, recovery, e := satchel.New(config, files)
	if e != api.OK {
		t.Fatalf("New: %d", e)
	}
	key := api.Key{Kind: api.Head, Name: lent(otherKey.Name), Version: lent(otherKey.Version)}
	dial := dialOf(dataEvent(1, lent(ok200+"\r\n"+contentOf(otherKey))), closeEvent(1))
	dials := []api.Dial{dial}
	fetched := x.Fetch(key, api.World{Dials: dials, Draws: []int{1}})
	for _, spoil := range spoils {
		spoil()
	}
	clear(files)
	clear(dials)
	clear(dial.Events)
	if !slices.Equal(recovery, []api.Step{{What: api.Remove, Name: "t/x"}}) {
		t.Errorf("P2: recovery became %s", show(recovery))
	}
	checkOutcome(t, "P2: what was fetched", fetched, api.Outcome{Sent: []api.Sent{{Mirror: "aa", Request: plainRequest(otherKey, "aa")}}, Steps: installSteps(otherKey, contentOf(otherKey)), Ticks: 2})
	checkLookup(t, "P2: what was there", x, headKey, body, api.OK)
	checkLookup(t, "P2: what was fetched", x, otherKey, contentOf(otherKey), api.OK)
	o := x.Fetch(zipKey, world(brokenDial, partDial("tag", zip, 30, len(zip), len(zip))))
	if o.Err != api.OK || mirrorsOf(o) != "aa bb" || o.Sent[1].Request != restRequest(zipKey, "bb", 30, "tag") {
		t.Errorf("P2: behind it: %s", show(o))
	}
}

// spoilAll writes over the memory of an answer's texts and lists.
func spoilAll(o api.Outcome) {
	for _, s := range o.Sent {
		spoilText(s.Mirror)
		spoilText(s.Request)
	}
	for _, s := range o.Steps {
		spoilText(s.Name)
		spoilText(s.To)
		spoilText(s.Data)
	}
	clear(o.Sent[:cap(o.Sent)])
	clear(o.Waits[:cap(o.Waits)])
	clear(o.Steps[:cap(o.Steps)])
}

func TestClientsAnswerNewMemory(t *testing.T) {
	zip := contentOf(zipKey)
	n := len(zip)
	x := newClient(t, configOf(t, "aa|bb", 2), cacheFile(headKey, contentOf(headKey)), api.File{Name: "t/x"})
	for range 2 {
		s, _ := x.Lookup(headKey)
		spoilText(s)
	}
	checkLookup(t, "P2: a Lookup that was spoilt", x, headKey, contentOf(headKey), api.OK)
	spoilAll(x.Fetch(zipKey, world(brokenDial, cutDial("tag", zip, 9))))
	want := []api.Sent{{Mirror: "aa", Request: plainRequest(zipKey, "aa")}, {Mirror: "bb", Request: restRequest(zipKey, "bb", 9, "tag")}, {Mirror: "bb", Request: restRequest(zipKey, "bb", 20, "tag")}}
	o := x.Fetch(zipKey, world(brokenDial, partDial("tag", zip, 9, 20, 20), partDial("tag", zip, 20, n, n)))
	if o.Err != api.OK || !slices.Equal(o.Sent, want) {
		t.Errorf("P2: behind an outcome that was spoilt: %s", show(o))
	}
	spoilAll(o)
	checkLookup(t, "P2: an outcome that was spoilt", x, zipKey, zip, api.OK)
}
