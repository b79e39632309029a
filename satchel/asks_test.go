package satchel_test

import (
	"fmt"
	"math/rand"
	"regexp"
	"slices"
	"strings"
	"testing"

	"satchel/api"
	"satchel/satchel"
)

// The slow client's Versions, About and Latest, and worlds by chance to hold the program's own against them.

var capitalPattern = regexp.MustCompile(`[A-Z]`)

func slowEscape(s string) string {
	return strings.ToLower(capitalPattern.ReplaceAllString(s, "!$0"))
}

func (s *slowClient) walkFor(w api.World) *slowWalk { return &slowWalk{slowClient: s, world: w} }

func (w *slowWalk) list(name string) []string {
	w.path = "/" + slowEscape(name) + "/@v/list"
	w.judge = func(string) int { return isGood }
	if w.outcome.Err = w.through(); w.outcome.Err != api.OK {
		return nil
	}
	return slowList(w.body)
}

func (w *slowWalk) about(path string) api.About {
	w.path = path
	w.judge = func(body string) int {
		if _, e := slowInfo(body); e != api.OK {
			return isNoSense
		}
		return isGood
	}
	if w.outcome.Err = w.through(); w.outcome.Err != api.OK {
		return api.About{}
	}
	about, _ := slowInfo(w.body)
	return about
}

func (s *slowClient) versions(name string, w api.World) ([]string, api.Outcome) {
	if e := wantedOfName(name); e != api.OK {
		return nil, api.Outcome{Err: e}
	}
	walk := s.walkFor(w)
	versions := walk.list(name)
	return versions, walk.outcome
}

func (s *slowClient) about(name string, version string, w api.World) (api.About, api.Outcome) {
	if e := wantedOfName(name); e != api.OK {
		return api.About{}, api.Outcome{Err: e}
	}
	if e := wantedOfVersion(version); e != api.OK {
		return api.About{}, api.Outcome{Err: e}
	}
	walk := s.walkFor(w)
	about := walk.about("/" + slowEscape(name) + "/@v/" + slowEscape(version) + ".info")
	return about, walk.outcome
}

func (s *slowClient) latest(name string, w api.World) (string, api.Outcome) {
	if e := wantedOfName(name); e != api.OK {
		return "", api.Outcome{Err: e}
	}
	walk := s.walkFor(w)
	version := walk.about("/" + slowEscape(name) + "/@latest").Version
	if walk.outcome.Err != api.ErrNotFound {
		return version, walk.outcome
	}
	version = slowLatest(walk.list(name))
	if walk.outcome.Err == api.OK && version == "" {
		walk.outcome.Err = api.ErrNotFound
	}
	return version, walk.outcome
}

// slowLatest sorts those without marks behind all others, and takes the last.
func slowLatest(versions []string) string {
	sorted := []string{""}
	for _, marked := range []bool{true, false} {
		for _, v := range versions {
			if strings.Contains(v, "-") == marked {
				sorted = append(sorted, v)
			}
		}
	}
	return sorted[len(sorted)-1]
}

// Texts that mirrors say when they are asked; c.dial cuts them, so none is very short.
var (
	someLists = []string{
		"v1.0.0\nv1.10.0\nx\nv1.9.0\nv2.0.0-rc", "v2.0.0-b\nv2.0.0-a\nv2.0.0-10\nv2.0.0-9", "no versions at all are here\n", strings.Join(rising, "\n") + "\n",
		"v1.0.0-Rc.1\nv0.0.1\nv1.0.0-Rc.1\nv0.0.1\n",
	}
	someInfos = []string{
		`{"Version":"v1.2.3","Time":"noon"}`, ` { "Time" : 12 , "Version" : "v9.0.0-Rc" } `, `{"Version":"v1.0.0","a":null,"b":"c"}`,
	}
	someNonsense = []string{
		`{"Version":"1.2.3","Time":"noon"}`, `{"Version":"v1.2.3","Version":"v1.2.3"}`, `{"version":"v1.2.3","time":""}`, "<html>There is nothing to be seen here</html>",
	}
)

func (c chance) said() string {
	texts := [][]string{someLists, someLists, someInfos, someInfos, someNonsense}[c.Intn(5)]
	return c.of(texts...)
}

func (c chance) asking() api.World {
	var dials []api.Dial
	gone := c.Intn(4)
	for range c.Intn(16) {
		switch {
		case c.Intn(4) < gone:
			dials = append(dials, goneDial)
		case c.Intn(2) == 0:
			dials = append(dials, wholeDial(c.said()))
		default:
			dials = append(dials, c.dial(c.said()))
		}
	}
	return api.World{Dials: dials, Draws: c.draws()}
}

func (c chance) name() string {
	return c.of("x/Y", "x/Y", "x/Y", "q", "A.B/c_D-9", strings.Repeat("Z", 60), strings.Repeat("Z", 61), "", "/", "x/", "!x", ".x", "x y")
}

func (c chance) version() string {
	return c.of("v1.0.0", "v1.0.0", "v2.0.0-RC.1", "v1.2.3-Z-z.0", "v1.0.0-"+strings.Repeat("Z", 23), "v1.0.0-"+strings.Repeat("Z", 24), "", "1.0.0", "v1.0", "v1.0.0/head", "!v1.0.0", "latest", "list")
}

// checkAsk asks one of the three by chance, on a client and a slow one.
func checkAsk(t *testing.T, c chance, x *satchel.Client, slow *slowClient) {
	t.Helper()
	name, version, w := c.name(), c.version(), c.asking()
	before := show(w)
	var got, want string
	var did, wantDid api.Outcome
	call := c.Intn(3)
	switch call {
	case 0:
		l, o := x.Versions(name, w)
		m, p := slow.versions(name, w)
		got, want, did, wantDid = strings.Join(l, " "), strings.Join(m, " "), o, p
	case 1:
		a, o := x.About(name, version, w)
		b, p := slow.about(name, version, w)
		got, want, did, wantDid = show(a), show(b), o, p
	case 2:
		v, o := x.Latest(name, w)
		u, p := slow.latest(name, w)
		got, want, did, wantDid = v, u, o, p
	}
	if got != want || !same(did, wantDid) || did.Steps != nil {
		t.Fatalf("P12: %+v: call %d of %q, %q, %s:\n got %q, %s,\nwant %q, %s", slow.config, call, name, version, show(w), got, show(did), want, show(wantDid))
	}
	if show(w) != before {
		t.Error("P2: a world was changed")
	}
	if call != 2 {
		checkBounds(t, slow.config, did)
	}
}

func TestAsksByChance(t *testing.T) {
	c := chance{rand.New(rand.NewSource(12))}
	table := configOf(t, "a", 1).Sums
	for round := range 5000 {
		config, files := c.config(table), c.files()
		if round%2 == 0 {
			// Few lists with other ends: so that second walks come about.
			config.Mirrors, config.Limit, config.Deadline = c.of("a", "a,b", "a|b", "b|a,c"), 1000, 12
		}
		x, slow := newClient(t, config, files...), newSlowClient(config, files)
		for range 5 {
			checkAsk(t, c, x, slow)
			k := c.key()
			w := c.world(k)
			// What is asked between two fetches changes nothing that they answer.
			if got, want := x.Fetch(k, w), slow.fetch(k, w); !same(got, want) {
				t.Fatalf("P12: %+v: Fetch(%v, %s) behind others:\n got %s,\nwant %s", config, k, show(w), show(got), show(want))
			}
			for _, k := range someKeys {
				data, e := slow.lookup(k)
				checkLookup(t, "P12: behind others", x, k, data, e)
			}
		}
	}
}

func TestSlowLatest(t *testing.T) {
	for _, c := range []struct{ list, want string }{{"", ""}, {"v1.0.0", "v1.0.0"}, {"v1.0.0-a v1.0.0-b", "v1.0.0-b"}, {"v1.0.0 v2.0.0-a", "v1.0.0"}, {"v0.0.1 v1.0.0-a v1.0.0 v2.0.0-a", "v1.0.0"}} {
		if got := slowLatest(strings.Fields(c.list)); got != c.want {
			t.Errorf("slowLatest(%q) = %q, want %q", c.list, got, c.want)
		}
	}
}

// asked is what an outcome has of what was sent: mirror and path of each.
func asked(t *testing.T, o api.Outcome) string {
	t.Helper()
	var all []string
	for _, s := range o.Sent {
		path, _, _ := strings.Cut(strings.TrimPrefix(s.Request, "GET "), " ")
		if s.Request != requestFor(path, s.Mirror) {
			t.Errorf("P12: the request %q", s.Request)
		}
		all = append(all, s.Mirror+path)
	}
	return strings.Join(all, " ")
}

type asking struct {
	list  string
	tries int
	dials []api.Dial
	draws []int
	err   api.Errno
	sent  string
	waits []int
	ticks int
}

func checkAsked(t *testing.T, a asking, o api.Outcome) {
	t.Helper()
	if sent := asked(t, o); o.Err != a.err || sent != a.sent || !slices.Equal(o.Waits, a.waits) || o.Ticks != a.ticks || len(o.Steps) != 0 {
		t.Errorf("P12: %q, %d tries: %d, sent %q, waits %v, ticks %d, steps %v, want %d, %q, %v, %d", a.list, a.tries, o.Err, sent, o.Waits, o.Ticks, o.Steps, a.err, a.sent, a.waits, a.ticks)
	}
}

func (a asking) world() api.World { return api.World{Dials: a.dials, Draws: a.draws} }

func TestVersionsOfMirrors(t *testing.T) {
	list := wholeDial("v1.10.0\nx\nv1.2.0\nv1.10.0")
	const path = "/x/!y/@v/list"
	for _, c := range []struct {
		asking
		want string
	}{
		{asking{"a", 1, []api.Dial{list}, nil, api.OK, "a" + path, nil, 1}, "v1.2.0 v1.10.0"},
		{asking{"a,b", 2, []api.Dial{goneDial, busyDial, list}, []int{1}, api.OK, "a" + path + " b" + path + " b" + path, []int{3}, 6}, "v1.2.0 v1.10.0"},
		{asking{"a|b", 2, []api.Dial{brokenDial, list}, nil, api.OK, "a" + path + " b" + path, nil, 2}, "v1.2.0 v1.10.0"},
		{asking{"a,b", 2, []api.Dial{brokenDial, list}, nil, api.ErrFailed, "a" + path, nil, 1}, ""},
		{asking{"a", 2, nil, nil, api.ErrFailed, "a" + path + " a" + path, []int{2}, 2}, ""},
		{asking{"a,b", 2, []api.Dial{goneDial, goneDial, list}, nil, api.ErrNotFound, "a" + path + " b" + path, nil, 2}, ""},
		{asking{"off", 2, []api.Dial{list}, nil, api.ErrOff, "", nil, 0}, ""},
		{asking{"a|direct", 2, []api.Dial{movedDial, list}, nil, api.ErrDirect, "a" + path, nil, 1}, ""},
		// Every body is good: the next mirror is not asked for a better one.
		{asking{"a|b", 2, []api.Dial{wholeDial(""), list}, nil, api.OK, "a" + path, nil, 1}, ""},
		{asking{"a|b", 2, []api.Dial{wholeDial("nothing"), list}, nil, api.OK, "a" + path, nil, 1}, ""},
		{asking{"a|b", 2, []api.Dial{wholeDial("\x00\xff\n\n"), list}, nil, api.OK, "a" + path, nil, 1}, ""},
		{asking{"a|b", 2, []api.Dial{wholeDial(someInfos[0]), list}, nil, api.OK, "a" + path, nil, 1}, ""},
		{asking{"a", 1, []api.Dial{dialOf(dataEvent(2, ok200+"\r\nv1.0"), dataEvent(3, ".0\nv0.0.1"), closeEvent(4))}, nil, api.OK, "a" + path, nil, 9}, "v0.0.1 v1.0.0"},
		{asking{"a", 1, []api.Dial{saying(chunked + "4\r\nv1.0\r\n3\r\n.0\n\r\n0\r\n\r\n")}, nil, api.OK, "a" + path, nil, 1}, "v1.0.0"},
		// No rests of lists.
		{asking{"a", 3, []api.Dial{cutDial("q", "v1.0.0\nv2.0.0", 7), partDial("q", "v1.0.0\nv2.0.0", 7, 13, 13), list}, nil, api.ErrFailed, "a" + path + " a" + path, []int{2}, 4}, ""},
		{asking{"a|b", 1, []api.Dial{partDial("q", "v1.0.0", 0, 6, 6), list}, nil, api.OK, "a" + path + " b" + path, nil, 2}, "v1.2.0 v1.10.0"},
	} {
		l, o := newClient(t, configOf(t, c.list, c.tries)).Versions("x/Y", c.world())
		checkAsked(t, c.asking, o)
		if got := strings.Join(l, " "); got != c.want {
			t.Errorf("P12: Versions by %q: %q, want %q", c.list, got, c.want)
		}
	}
}

func TestAboutOfMirrors(t *testing.T) {
	right, none := wholeDial(someInfos[0]), wholeDial("{}")
	const path = "/x/!y/@v/v1.2.3-!rc.info"
	told := api.About{Version: "v1.2.3", Time: "noon"}
	for _, c := range []struct {
		asking
		want api.About
	}{
		{asking{"a", 1, []api.Dial{right}, nil, api.OK, "a" + path, nil, 1}, told},
		{asking{"a", 1, []api.Dial{wholeDial(`{"Time":null,"Version":"v0.0.1"}`)}, nil, api.OK, "a" + path, nil, 1}, api.About{Version: "v0.0.1"}},
		// What makes no sense is asked for no more, where it came from.
		{asking{"a", 5, []api.Dial{none, right}, nil, api.ErrFailed, "a" + path, nil, 1}, api.About{}},
		{asking{"a,b", 5, []api.Dial{none, right}, nil, api.ErrFailed, "a" + path, nil, 1}, api.About{}},
		{asking{"a|b", 5, []api.Dial{none, right}, nil, api.OK, "a" + path + " b" + path, nil, 2}, told},
		{asking{"a|b", 5, []api.Dial{none, none, right}, nil, api.ErrFailed, "a" + path + " b" + path, nil, 2}, api.About{}},
		{asking{"a|b", 5, []api.Dial{none, goneDial, right}, nil, api.ErrNotFound, "a" + path + " b" + path, nil, 2}, api.About{}},
		{asking{"a,b", 5, []api.Dial{goneDial, none, right}, nil, api.ErrFailed, "a" + path + " b" + path, nil, 2}, api.About{}},
		{asking{"a|off", 5, []api.Dial{none, right}, nil, api.ErrOff, "a" + path, nil, 1}, api.About{}},
		{asking{"a|direct", 5, []api.Dial{wholeDial("")}, nil, api.ErrDirect, "a" + path, nil, 1}, api.About{}},
		{asking{"a", 3, []api.Dial{busyDial, refusedDial, right}, []int{1, 1}, api.OK, "a" + path + " a" + path + " a" + path, []int{3, 4}, 9}, told},
		{asking{"a", 3, []api.Dial{busyDial, none, right}, nil, api.ErrFailed, "a" + path + " a" + path, []int{2}, 4}, api.About{}},
		{asking{"a", 1, []api.Dial{goneDial, right}, nil, api.ErrNotFound, "a" + path, nil, 1}, api.About{}},
		{asking{"a", 3, []api.Dial{cutDial("q", someInfos[0], 9), partDial("q", someInfos[0], 9, len(someInfos[0]), len(someInfos[0])), right}, nil, api.ErrFailed, "a" + path + " a" + path, []int{2}, 4}, api.About{}},
	} {
		a, o := newClient(t, configOf(t, c.list, c.tries)).About("x/Y", "v1.2.3-Rc", c.world())
		checkAsked(t, c.asking, o)
		if a != c.want {
			t.Errorf("P12: About by %q: %q, want %q", c.list, a, c.want)
		}
	}
	for _, text := range someNonsense {
		a, o := newClient(t, configOf(t, "a|b", 1)).About("x/Y", "v1.2.3-Rc", world(wholeDial(text), right))
		checkAsked(t, asking{list: text, sent: "a" + path + " b" + path, ticks: 2}, o)
		if a != told {
			t.Errorf("P12: About behind %q: %q", text, a)
		}
	}
}

func TestLatestOfMirrors(t *testing.T) {
	right, none, list := wholeDial(someInfos[0]), wholeDial("{}"), wholeDial(someLists[0])
	const aNew, bNew, aList, bList = "a/x/!y/@latest", "b/x/!y/@latest", "a/x/!y/@v/list", "b/x/!y/@v/list"
	for _, c := range []struct {
		asking
		want string
	}{
		{asking{"a,b", 1, []api.Dial{right, list}, nil, api.OK, aNew, nil, 1}, "v1.2.3"},
		{asking{"a,b", 1, []api.Dial{goneDial, right, list}, nil, api.OK, aNew + " " + bNew, nil, 2}, "v1.2.3"},
		{asking{"a", 1, []api.Dial{wholeDial(`{"Version":"v1.0.0-Rc"}`)}, nil, api.OK, aNew, nil, 1}, "v1.0.0-Rc"},
		// Only what is not found is looked for in the list.
		{asking{"a", 5, []api.Dial{none, list}, nil, api.ErrFailed, aNew, nil, 1}, ""},
		{asking{"a", 1, []api.Dial{list, list}, nil, api.ErrFailed, aNew, nil, 1}, ""},
		{asking{"a", 1, []api.Dial{busyDial, list}, nil, api.ErrFailed, aNew, nil, 1}, ""},
		{asking{"a,off", 1, []api.Dial{goneDial, list}, nil, api.ErrOff, aNew, nil, 1}, ""},
		{asking{"a|direct", 1, []api.Dial{none, list}, nil, api.ErrDirect, aNew, nil, 1}, ""},
		{asking{"off", 1, []api.Dial{right, list}, nil, api.ErrOff, "", nil, 0}, ""},
		{asking{"a|b", 1, []api.Dial{goneDial, none, list}, nil, api.ErrFailed, aNew + " " + bNew, nil, 2}, ""},
		// The second walk begins with the first mirror.
		{asking{"a,b", 1, []api.Dial{goneDial, goneDial, list}, nil, api.OK, aNew + " " + bNew + " " + aList, nil, 3}, "v1.10.0"},
		{asking{"a,b", 1, []api.Dial{goneDial, goneDial, goneDial, list}, nil, api.OK, aNew + " " + bNew + " " + aList + " " + bList, nil, 4}, "v1.10.0"},
		{asking{"a|b", 1, []api.Dial{none, goneDial, brokenDial, list}, nil, api.OK, aNew + " " + bNew + " " + aList + " " + bList, nil, 4}, "v1.10.0"},
		// It has the list's own error, or none of a list.
		{asking{"a,b", 1, []api.Dial{goneDial, goneDial, goneDial, goneDial}, nil, api.ErrNotFound, aNew + " " + bNew + " " + aList + " " + bList, nil, 4}, ""},
		{asking{"a,b", 1, []api.Dial{goneDial, goneDial, movedDial, list}, nil, api.ErrFailed, aNew + " " + bNew + " " + aList, nil, 3}, ""},
		{asking{"a", 1, []api.Dial{goneDial}, nil, api.ErrFailed, aNew + " " + aList, nil, 1}, ""},
		{asking{"a|b", 1, []api.Dial{goneDial, goneDial, wholeDial("x"), list}, nil, api.ErrNotFound, aNew + " " + bNew + " " + aList, nil, 3}, ""},
		{asking{"a|b", 1, []api.Dial{goneDial, goneDial, wholeDial(""), list}, nil, api.ErrNotFound, aNew + " " + bNew + " " + aList, nil, 3}, ""},
		{asking{"a|b", 1, []api.Dial{goneDial, goneDial, right, list}, nil, api.ErrNotFound, aNew + " " + bNew + " " + aList, nil, 3}, ""},
		// Waits begin anew, draws and dials go on.
		{asking{"a", 3, []api.Dial{busyDial, busyDial, goneDial, busyDial, busyDial, list}, []int{1, 0, 0, 1}, api.OK, aNew + " " + aNew + " " + aNew + " " + aList + " " + aList + " " + aList, []int{3, 3, 2, 4}, 18}, "v1.10.0"},
		{asking{"a", 2, []api.Dial{busyDial, goneDial}, []int{0, 1}, api.ErrFailed, aNew + " " + aNew + " " + aList + " " + aList, []int{2, 3}, 7}, ""},
		{asking{"a", 2, []api.Dial{busyDial, goneDial, cutDial("q", someLists[0], 7), partDial("q", someLists[0], 7, len(someLists[0]), len(someLists[0]))}, nil, api.ErrFailed, aNew + " " + aNew + " " + aList + " " + aList, []int{2, 2}, 8}, ""},
	} {
		v, o := newClient(t, configOf(t, c.list, c.tries)).Latest("x/Y", c.world())
		checkAsked(t, c.asking, o)
		if v != c.want {
			t.Errorf("P12: Latest by %q: %q, want %q", c.list, v, c.want)
		}
	}
}

func TestLatestOfLists(t *testing.T) {
	x := newClient(t, configOf(t, "a", 1))
	for text, want := range map[string]string{
		"v1.0.0":                                "v1.0.0",
		"v1.0.0-rc":                             "v1.0.0-rc",
		"v1.0.0-rc\nv0.0.1":                     "v0.0.1",
		"v0.0.0\nv999999999.0.0-0":              "v0.0.0",
		"v1.9.0\nv1.10.0\nv1.2.0":               "v1.10.0",
		"v1.10.0\nv1.9.0\nv2.0.0-a\n":           "v1.10.0",
		"v1.0.0-rc.2\nv1.0.0-rc.10\nv1.0.0-rc":  "v1.0.0-rc.10",
		"v1.0.0-Z\nv1.0.0-9\nv1.0.0-a\nv0.9.0-": "v1.0.0-a",
		"x\nv1.0\nv2.0.0 \nv1.0.0\r\nv0.0.1\n":  "v0.0.1",
		"v1.0.0--\nv1.0.0-a-b\nv1.0.0-a":        "v1.0.0-a-b",
	} {
		if v, o := x.Latest("q", world(goneDial, wholeDial(text))); v != want || o.Err != api.OK || len(o.Sent) != 2 || o.Ticks != 2 {
			t.Errorf("P12: Latest of %q = %q, %s, want %q", text, v, show(o), want)
		}
	}
	// Each of the rising ones is the latest of those up to it: of those without marks, if there is one.
	source := rand.New(rand.NewSource(3))
	for i := range rising {
		lines := slices.Clone(rising[:i+1])
		source.Shuffle(len(lines), func(i int, k int) { lines[i], lines[k] = lines[k], lines[i] })
		text := strings.Join(lines, "\n")
		if v, o := x.Latest("q", world(goneDial, wholeDial(text))); v != slowLatest(rising[:i+1]) || o.Err != api.OK {
			t.Errorf("P12: Latest of %q = %q, %d, want %q", text, v, o.Err, slowLatest(rising[:i+1]))
		}
	}
}

// checkNothingAsked is of a call that refuses what it is given.
func checkNothingAsked(t *testing.T, what string, answered bool, o api.Outcome, want api.Errno) {
	t.Helper()
	if answered || o.Err != want || o.Sent != nil || o.Waits != nil || o.Steps != nil || o.Ticks != 0 {
		t.Errorf("P1, P12: %.80q: answered %t, %.300q, want %d", what, answered, show(o), want)
	}
}

func TestAsksRefuse(t *testing.T) {
	x := newClient(t, configOf(t, "a", 1))
	w := world(wholeDial(someInfos[0]), wholeDial(someLists[0]))
	names := append(longTexts(), "", "/", "x/", "/x", ".x", "x!y", "x y", "x@v1.0.0", strings.Repeat("a", 61))
	for _, name := range names {
		l, o := x.Versions(name, w)
		checkNothingAsked(t, "Versions of "+name, l != nil, o, api.ErrName)
		v, o := x.Latest(name, w)
		checkNothingAsked(t, "Latest of "+name, v != "", o, api.ErrName)
		for _, version := range []string{"v1.0.0", "", "1"} {
			a, o := x.About(name, version, w)
			checkNothingAsked(t, "About of "+name, a != api.About{}, o, api.ErrName)
		}
	}
	versions := append(longTexts(), "", "1.0.0", "v1.0", "v01.0.0", "v1.0.0-", "v1.0.0-01", "v1.0.0/head", "v1.0.0!", "latest", "v1.0.0-"+strings.Repeat("a", 24))
	for _, version := range versions {
		a, o := x.About("x", version, w)
		checkNothingAsked(t, "About x of "+version, a != api.About{}, o, api.ErrVersion)
	}
	if v, o := x.Latest(strings.Repeat("A", 60), w); v != "v1.2.3" || o.Err != api.OK || asked(t, o) != "a/"+strings.Repeat("!a", 60)+"/@latest" {
		t.Errorf("P12: Latest of a name of 60 bytes = %q, %s", v, show(o))
	}
	version := "v1.0.0-" + strings.Repeat("A", 23)
	if a, o := x.About("x", version, w); a.Version != "v1.2.3" || o.Err != api.OK || asked(t, o) != "a/x/@v/v1.0.0-"+strings.Repeat("!a", 23)+".info" {
		t.Errorf("P12: About of a version of 30 bytes = %q, %s", a, show(o))
	}
}

func TestAsksMindTheConfig(t *testing.T) {
	right := someInfos[0]
	for _, c := range []struct {
		limit, deadline int
		want            api.Errno
	}{
		{len(right), 1, api.OK}, {len(right) - 1, 1, api.ErrFailed}, {len(right), 0, api.ErrFailed}, {0, 0, api.ErrFailed},
	} {
		config := configOf(t, "a", 1)
		config.Limit, config.Deadline = c.limit, c.deadline
		w := world(wholeDial(right))
		if _, o := newClient(t, config).Versions("x", w); o.Err != c.want || o.Ticks > c.deadline {
			t.Errorf("P12: Versions, limit %d, deadline %d: %s", c.limit, c.deadline, show(o))
		}
		if _, o := newClient(t, config).About("x", "v1.0.0", w); o.Err != c.want || o.Ticks > c.deadline {
			t.Errorf("P12: About, limit %d, deadline %d: %s", c.limit, c.deadline, show(o))
		}
		if _, o := newClient(t, config).Latest("x", w); o.Err != c.want || o.Ticks > c.deadline {
			t.Errorf("P12: Latest, limit %d, deadline %d: %s", c.limit, c.deadline, show(o))
		}
	}
	// A name needs no line of the table.
	config := configOf(t, "a", 1)
	config.Sums = ""
	if v, o := newClient(t, config).Latest("x", world(wholeDial(right))); v != "v1.2.3" || o.Err != api.OK {
		t.Errorf("P12: Latest without a table: %q, %s", v, show(o))
	}
}

func TestAsksChangeNothing(t *testing.T) {
	zip := contentOf(zipKey)
	n := len(zip)
	x := newClient(t, configOf(t, "a", 2), cacheFile(headKey, contentOf(headKey)), leftFile(zipKey, "a q\n"+zip[:9]))
	worlds := []api.World{
		{}, world(goneDial, goneDial), world(cutDial("r", zip, 20), cutDial("r", zip, 21)), world(partDial("q", zip, 9, n, n)),
		world(wholeDial(zip)), world(wholeDial(someInfos[0])), world(goneDial, cutDial("q", zip, 20), wholeDial(someLists[0])),
	}
	for _, w := range worlds {
		_, v := x.Versions(zipKey.Name, w)
		_, a := x.About(zipKey.Name, zipKey.Version, w)
		_, l := x.Latest(zipKey.Name, w)
		for _, o := range []api.Outcome{v, a, l} {
			// asked fails if there is a rest that was asked for.
			asked(t, o)
			if o.Steps != nil {
				t.Errorf("P12: steps %s", show(o.Steps))
			}
		}
		checkLookup(t, "P12: behind others", x, headKey, contentOf(headKey), api.OK)
		checkLookup(t, "P12: behind others", x, zipKey, "", api.ErrNone)
	}
	o := x.Fetch(zipKey, world(partDial("q", zip, 9, n, n)))
	if o.Err != api.OK || len(o.Sent) != 1 || o.Sent[0].Request != restRequest(zipKey, "a", 9, "q") || !slices.Equal(o.Steps, append(installSteps(zipKey, zip), dropStep(zipKey))) {
		t.Errorf("P12: Fetch behind others: %s", show(o))
	}
}

func TestLatestAsksTwiceAsOftenAtMost(t *testing.T) {
	config := configOf(t, "a,b,c,d,e,f", 5)
	config.Base, config.Cap, config.Deadline = 100000, 100000, 100000
	late := dialOf(closeEvent(1<<63 - 1))
	lateAndGone := dialOf(dataEvent(100000, "HTTP/1.1 404 x\r\n\r\n"))
	var w api.World
	for range 12 {
		w.Dials = append(w.Dials, late, late, late, late, lateAndGone)
	}
	w.Draws = slices.Repeat([]int{50000}, 100)
	v, o := newClient(t, config).Latest("x", w)
	if v != "" || o.Err != api.ErrNotFound || len(o.Sent) != 60 || len(o.Waits) != 48 || o.Ticks != 108*100000 {
		t.Errorf("P12: %q, %d, %d dials, %d waits, %d ticks", v, o.Err, len(o.Sent), len(o.Waits), o.Ticks)
	}
}

func TestAsksOfLongWorlds(t *testing.T) {
	const many = 300000
	dials := append([]api.Dial{goneDial, wholeDial(someLists[0])}, make([]api.Dial, many)...)
	x := newClient(t, configOf(t, "a", 1))
	w := api.World{Dials: dials, Draws: make([]int, many)}
	if v, o := x.Latest("x", w); v != "v1.10.0" || o.Err != api.OK || len(o.Sent) != 2 {
		t.Errorf("P1, P12: Latest of a long world: %q, %.300s", v, show(o))
	}
	long := saying(ok200 + "\r\n" + strings.Repeat("v1.0.0\n", many))
	if l, o := x.Versions("x", world(long)); l != nil || o.Err != api.ErrFailed {
		t.Errorf("P1, P12: Versions of a long body: %d, %s", len(l), show(o))
	}
	config := configOf(t, "a", 1)
	config.Limit = api.MaxBody
	var most strings.Builder
	for i := 0; most.Len()+8 <= api.MaxBody; i++ {
		fmt.Fprintf(&most, "v%d.0.0\n", 100-i%91)
	}
	if l, o := newClient(t, config).Versions("x", world(wholeDial(most.String()))); len(l) != 91 || l[0] != "v10.0.0" || l[90] != "v100.0.0" || o.Err != api.OK {
		t.Errorf("P12: Versions of a long list: %q, %d", l, o.Err)
	}
}

func TestAsksKeepNothingThatWasHandedIn(t *testing.T) {
	var spoils []func()
	lent := func(s string) string {
		text, spoil := lend(s)
		spoils = append(spoils, spoil)
		return text
	}
	config := configOf(t, "aa,bb", 1)
	config.Mirrors, config.Sums = lent(config.Mirrors), lent(config.Sums)
	x := newClient(t, config)
	name, version := lent("x/Y"), lent("v1.0.0-Rc")
	list := dialOf(dataEvent(1, lent(ok200+"\r\n"+someLists[1])), closeEvent(1))
	about := dialOf(dataEvent(1, lent(ok200+"\r\n"+someInfos[0])), closeEvent(1))
	l, listed := x.Versions(name, world(list))
	a, told := x.About(name, version, world(about))
	v, first := x.Latest(name, world(about))
	u, second := x.Latest(name, world(goneDial, goneDial, list))
	for _, spoil := range spoils {
		spoil()
	}
	if got := strings.Join(l, " "); got != "v2.0.0-9 v2.0.0-10 v2.0.0-a v2.0.0-b" || asked(t, listed) != "aa/x/!y/@v/list" {
		t.Errorf("P2: Versions became %q, %s", got, show(listed))
	}
	if a != (api.About{Version: "v1.2.3", Time: "noon"}) || asked(t, told) != "aa/x/!y/@v/v1.0.0-!rc.info" {
		t.Errorf("P2: About became %q, %s", a, show(told))
	}
	if v != "v1.2.3" || asked(t, first) != "aa/x/!y/@latest" || u != "v2.0.0-b" || asked(t, second) != "aa/x/!y/@latest bb/x/!y/@latest aa/x/!y/@v/list" {
		t.Errorf("P2: Latest became %q, %s, %q, %s", v, show(first), u, show(second))
	}
}

func TestAsksAnswerNewMemory(t *testing.T) {
	x := newClient(t, configOf(t, "aa|bb", 2))
	list, about := world(busyDial, wholeDial(someLists[0])), world(brokenDial, busyDial, wholeDial(someInfos[0]))
	latest := world(goneDial, goneDial, busyDial, wholeDial(someLists[0]))
	answers := func() string {
		l, listed := x.Versions("x", list)
		a, told := x.About("x", "v1.0.0", about)
		v, found := x.Latest("x", latest)
		answered := show(l) + show(a) + v + show(listed) + show(told) + show(found)
		for _, text := range append(slices.Clone(l), a.Version, a.Time, v) {
			spoilText(text)
		}
		clear(l[:cap(l)])
		for _, o := range []api.Outcome{listed, told, found} {
			spoilAll(o)
		}
		return answered
	}
	before := show(list) + show(about) + show(latest)
	first := answers()
	if again := answers(); again != first {
		t.Errorf("P2: behind answers that were spoilt:\n got %s,\nwant %s", again, first)
	}
	if show(list)+show(about)+show(latest) != before {
		t.Error("P2: answers share memory with the worlds")
	}
}
