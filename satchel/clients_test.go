package satchel_test

import (
	"fmt"
	"slices"
	"strings"
	"testing"
	"unsafe"

	"satchel/api"
	"satchel/satchel"
)

// Keys that the tests' table has; their names and versions are escaped, some of them.
var (
	headKey  = api.Key{Kind: api.Head, Name: someName, Version: someVersion}
	zipKey   = api.Key{Kind: api.Archive, Name: someName, Version: someVersion}
	otherKey = api.Key{Kind: api.Head, Name: "q", Version: "v2.0.0-RC.1"}
	otherZip = api.Key{Kind: api.Archive, Name: "q", Version: "v2.0.0-RC.1"}
	noSumKey = api.Key{Kind: api.Head, Name: "q", Version: "v2.0.0"}
	someKeys = []api.Key{headKey, zipKey, otherKey, otherZip}
)

// Keys that are none, and what is wrong with them first.
var noKeys = []struct {
	key  api.Key
	want api.Errno
}{
	{api.Key{}, api.ErrArg},
	{api.Key{Kind: 3, Name: "/", Version: "1"}, api.ErrArg},
	{api.Key{Kind: -1, Name: someName, Version: someVersion}, api.ErrArg},
	{api.Key{Kind: 1<<32 + 1, Name: someName, Version: someVersion}, api.ErrArg},
	{api.Key{Kind: api.Head}, api.ErrName},
	{api.Key{Kind: api.Head, Name: "x/", Version: "1"}, api.ErrName},
	{api.Key{Kind: api.Archive, Name: "x/!y", Version: someVersion}, api.ErrName},
	{api.Key{Kind: api.Archive, Name: strings.Repeat("a", 61), Version: someVersion}, api.ErrName},
	{api.Key{Kind: api.Head, Name: someName}, api.ErrVersion},
	{api.Key{Kind: api.Archive, Name: someName, Version: "v1.0.0/head"}, api.ErrVersion},
	{api.Key{Kind: api.Head, Name: "other", Version: "v1.0"}, api.ErrVersion},
	{noSumKey, api.ErrNoSum},
	{api.Key{Kind: api.Archive, Name: "q", Version: "v2.0.0"}, api.ErrNoSum},
	{api.Key{Kind: api.Head, Name: "x/y", Version: someVersion}, api.ErrNoSum},
	{api.Key{Kind: api.Head, Name: "q", Version: "v2.0.0-rc.1"}, api.ErrNoSum},
}

// contentOf is what the table wants of a key.
func contentOf(k api.Key) string {
	if k.Kind == api.Head {
		return "this is the head of all that is called " + k.Name
	}
	prefix := k.Name + "@" + k.Version + "/"
	f := storedFile("", "the bytes of "+k.Name)
	f.name = prefix + "f"
	f.nameBytes = len(f.name)
	return archiveOf(f)
}

func sumOf(t testing.TB, k api.Key) string {
	t.Helper()
	sum, e := satchel.Sum(k.Kind, contentOf(k), k.Name, k.Version)
	if e != api.OK {
		t.Fatalf("Sum of %v: %d", k, e)
	}
	return sum
}

func lineOf(k api.Key, sum string) string {
	if k.Kind == api.Head {
		return k.Name + " " + k.Version + "/head " + sum + "\n"
	}
	return k.Name + " " + k.Version + " " + sum + "\n"
}

// configOf has a table of the tests' keys.
func configOf(t testing.TB, list string, tries int) api.Config {
	t.Helper()
	table := ""
	for _, k := range someKeys {
		table += lineOf(k, sumOf(t, k))
	}
	return api.Config{Mirrors: list, Sums: table, Tries: tries, Base: 3, Cap: 10, Deadline: 9, Limit: 1000}
}

func newClient(t testing.TB, c api.Config, files ...api.File) *satchel.Client {
	t.Helper()
	x, _, e := satchel.New(c, files)
	if x == nil || e != api.OK {
		t.Fatalf("P8: New(%+v, %q) = %v, %d", c, files, x != nil, e)
	}
	return x
}

// tailOf is written out by hand, as the document says it.
func tailOf(k api.Key) string {
	tails := map[api.Key]string{
		headKey:  "x/!y@v1.0.0.head",
		zipKey:   "x/!y@v1.0.0.zip",
		otherKey: "q@v2.0.0-!r!c.1.head",
		otherZip: "q@v2.0.0-!r!c.1.zip",
	}
	return tails[k]
}

func pathOf(k api.Key) string { return "/" + strings.Replace(tailOf(k), "@", "/@v/", 1) }

func cacheFile(k api.Key, data string) api.File { return api.File{Name: "c/" + tailOf(k), Data: data} }

func leftFile(k api.Key, data string) api.File { return api.File{Name: "p/" + tailOf(k), Data: data} }

// Dials, as the tests name them.
var (
	refusedDial = api.Dial{Refused: true}
	goneDial    = saying("HTTP/1.1 404 x\r\n\r\n")
	busyDial    = saying("HTTP/1.1 503 x\r\n\r\n")
	movedDial   = saying("HTTP/1.1 301 x\r\n\r\n")
	brokenDial  = saying("HTTP/1.0")
)

// saying is a dial that says a text after a tick, and breaks.
func saying(text string) api.Dial { return dialOf(dataEvent(1, text)) }

func wholeDial(body string) api.Dial {
	return saying(fmt.Sprintf("%sContent-Length: %d\r\n\r\n%s", ok200, len(body), body))
}

// cutDial is a whole body of which only the first bytes come.
func cutDial(tag string, body string, came int) api.Dial {
	return saying(fmt.Sprintf("%sETag: %s\r\nContent-Length: %d\r\n\r\n%s", ok200, tag, len(body), body[:came]))
}

// partDial is the bytes of a body from first on, up to behind; only those up to came come.
func partDial(tag string, body string, first int, behind int, came int) api.Dial {
	return saying(fmt.Sprintf("%sETag: %s\r\nContent-Length: %d\r\nContent-Range: bytes %d-%d/%d\r\n\r\n%s",
		ok206, tag, behind-first, first, behind-1, len(body), body[first:came]))
}

func world(dials ...api.Dial) api.World { return api.World{Dials: dials} }

func mirrorsOf(o api.Outcome) string {
	var dialled []string
	for _, s := range o.Sent {
		dialled = append(dialled, s.Mirror)
	}
	return strings.Join(dialled, " ")
}

// plainRequest asks for a whole body.
func plainRequest(k api.Key, mirror string) string { return requestFor(pathOf(k), mirror) }

func requestFor(path string, mirror string) string {
	return "GET " + path + " HTTP/1.1\r\nHost: " + mirror + "\r\n\r\n"
}

func restRequest(k api.Key, mirror string, bytes int, tag string) string {
	return fmt.Sprintf("GET %s HTTP/1.1\r\nHost: %s\r\nRange: bytes=%d-\r\nIf-Range: %s\r\n\r\n", pathOf(k), mirror, bytes, tag)
}

func installSteps(k api.Key, body string) []api.Step {
	tail := tailOf(k)
	return []api.Step{
		{What: api.Write, Name: "t/" + tail, Data: body},
		{What: api.Sync, Name: "t/" + tail},
		{What: api.Rename, Name: "t/" + tail, To: "c/" + tail},
		{What: api.SyncDir},
	}
}

func leftStep(k api.Key, text string) api.Step {
	return api.Step{What: api.Write, Name: "p/" + tailOf(k), Data: text}
}

func dropStep(k api.Key) api.Step { return api.Step{What: api.Remove, Name: "p/" + tailOf(k)} }

func show(v any) string { return fmt.Sprintf("%#v", v) }

// same does not tell a list that is nil from an empty one.
func same(a api.Outcome, b api.Outcome) bool {
	return a.Err == b.Err && a.Ticks == b.Ticks && slices.Equal(a.Sent, b.Sent) && slices.Equal(a.Waits, b.Waits) && slices.Equal(a.Steps, b.Steps)
}

func checkOutcome(t *testing.T, what string, got api.Outcome, want api.Outcome) {
	t.Helper()
	if !same(got, want) {
		t.Errorf("P10: %s:\n got %s,\nwant %s", what, show(got), show(want))
	}
}

func checkLookup(t *testing.T, what string, x *satchel.Client, k api.Key, want string, wantErr api.Errno) {
	t.Helper()
	if s, e := x.Lookup(k); s != want || e != wantErr {
		t.Errorf("P9: %s: Lookup(%+v) = %.80q, %d, want %.80q, %d", what, k, s, e, want, wantErr)
	}
}

// lend makes a text whose memory is spoilt later: who has kept it, has nonsense from then on.
func lend(s string) (text string, spoil func()) {
	b := []byte(s + "x")
	return unsafe.String(&b[0], len(s)), func() {
		for i := range b {
			b[i] = '?'
		}
	}
}

// spoilText writes over the memory of a text that was answered: who shares it, has nonsense from then on.
func spoilText(s string) {
	if s != "" && !isConstant(s) {
		clear(unsafe.Slice(unsafe.StringData(s), len(s)))
	}
}

// isConstant tells of texts of one byte, which Go may keep where nothing can be written.
func isConstant(s string) bool { return len(s) == 1 }
