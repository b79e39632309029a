package satchel_test

import (
	"fmt"
	"math/rand"
	"regexp"
	"strings"

	"satchel/api"
	"satchel/satchel"
)

// Here is a slow client, made of the document's words alone, to hold the program's own against.
// It has all of the disk's files, and changes them by its steps only.

type slowClient struct {
	config api.Config
	files  map[string]string
}

func newSlowClient(c api.Config, files []api.File) *slowClient {
	s := &slowClient{config: c, files: map[string]string{}}
	for _, f := range files {
		if !strings.HasPrefix(f.Name, "t/") {
			s.files[f.Name] = f.Data
		}
	}
	return s
}

func (s *slowClient) do(step api.Step) {
	switch step.What {
	case api.Write:
		s.files[step.Name] = step.Data
	case api.Rename:
		s.files[step.To] = s.files[step.Name]
		delete(s.files, step.Name)
	case api.Remove:
		delete(s.files, step.Name)
	}
}

// sum is the table's, or empty.
func (s *slowClient) sum(k api.Key) string {
	for _, line := range strings.Split(s.config.Sums, "\n") {
		if sum, found := strings.CutPrefix(line, strings.TrimSuffix(lineOf(k, ""), "\n")); found {
			return sum
		}
	}
	return ""
}

func (s *slowClient) isRight(k api.Key, body string) bool {
	sum, e := satchel.Sum(k.Kind, body, k.Name, k.Version)
	return e == api.OK && sum == s.sum(k)
}

func (s *slowClient) lookup(k api.Key) (string, api.Errno) {
	if _, e := satchel.Sum(k.Kind, contentOf(k), k.Name, k.Version); e != api.OK {
		return "", e
	}
	if s.sum(k) == "" {
		return "", api.ErrNoSum
	}
	if data, there := s.files["c/"+tailOf(k)]; there && s.isRight(k, data) {
		return data, api.OK
	}
	return "", api.ErrNone
}

// A slowWalk is a call that is under way; it has a key only if it is a Fetch.
type slowWalk struct {
	*slowClient
	key     api.Key
	path    string
	judge   func(body string) int
	world   api.World
	outcome api.Outcome
	left    [3]string // mirror, tag, bytes
	asked   bool      // for a rest, the last time
	body    string    // that is Done
}

// What a judge says of a body.
const (
	isGood = iota
	isWrong
	isNoSense
)

func (s *slowClient) fetch(k api.Key, w api.World) api.Outcome {
	if _, e := s.lookup(k); e != api.ErrNone {
		return api.Outcome{Err: e}
	}
	walk := &slowWalk{slowClient: s, key: k, path: pathOf(k), world: w}
	walk.judge = func(body string) int {
		if s.isRight(k, body) {
			return isGood
		}
		return isWrong
	}
	if k.Kind == api.Archive {
		walk.left = s.leftOf(s.files["p/"+tailOf(k)])
	}
	walk.outcome.Err = walk.through()
	switch walk.outcome.Err {
	case api.OK:
		for _, step := range installSteps(k, walk.body) {
			walk.step(step)
		}
		walk.drop()
	case api.ErrSum:
		walk.drop()
	}
	return walk.outcome
}

var leftPattern = regexp.MustCompile(`(?s)\A([a-z0-9.]+) ([^\n]+)\n(.+)\z`)

func (s *slowClient) leftOf(text string) [3]string {
	m := leftPattern.FindStringSubmatch(text)
	for _, entry := range strings.FieldsFunc(s.config.Mirrors, func(r rune) bool { return r == ',' || r == '|' }) {
		if m != nil && m[1] == entry {
			return [3]string(m[1:])
		}
	}
	return [3]string{}
}

func (w *slowWalk) step(step api.Step) {
	w.outcome.Steps = append(w.outcome.Steps, step)
	w.do(step)
}

func (w *slowWalk) drop() {
	if _, there := w.files["p/"+tailOf(w.key)]; there {
		w.step(dropStep(w.key))
	}
}

func (w *slowWalk) change(left [3]string) {
	if w.key.Kind == api.Archive && left != w.left {
		w.left = left
		w.step(leftStep(w.key, left[0]+" "+left[1]+"\n"+left[2]))
	}
}

// through goes from place to place of the list's text.
func (w *slowWalk) through() api.Errno {
	list, start, tries := w.config.Mirrors, 0, 0
	for {
		end := start
		for end < len(list) && list[end] != ',' && list[end] != '|' {
			end++
		}
		entry, behind := list[start:end], (list + "\n")[end]
		switch entry {
		case "off":
			return api.ErrOff
		case "direct":
			return api.ErrDirect
		}
		class := w.once(entry, tries)
		tries++
		switch {
		case class == api.Done && w.judge(w.body) == isGood:
			return api.OK
		case class == api.Done && w.judge(w.body) == isWrong:
			return api.ErrSum
		case class == api.Again && tries < w.config.Tries:
			continue
		case class == api.Missing && behind == '\n':
			return api.ErrNotFound
		case class != api.Missing && behind != '|':
			return api.ErrFailed
		}
		start, tries = end+1, 0
	}
}

// once asks a mirror, and tells what its reply counts as.
func (w *slowWalk) once(mirror string, before int) int {
	if before > 0 {
		w.wait(before)
	}
	w.asked = w.left[0] == mirror
	request := requestFor(w.path, mirror)
	if w.asked {
		request = restRequest(w.key, mirror, len(w.left[2]), w.left[1])
	}
	w.outcome.Sent = append(w.outcome.Sent, api.Sent{Mirror: mirror, Request: request})
	dial := api.Dial{Refused: true}
	if at := len(w.outcome.Sent) - 1; at < len(w.world.Dials) {
		dial = w.world.Dials[at]
	}
	r := satchel.Read(dial, w.config.Deadline, w.config.Limit)
	w.outcome.Ticks += r.Ticks
	w.body = r.Body
	switch {
	case r.Status == 206:
		return w.rest(mirror, r)
	case r.Status == 200 && r.Class == api.Again && r.Tag != "" && r.Body != "":
		w.change([3]string{mirror, r.Tag, r.Body})
	}
	return r.Class
}

func (w *slowWalk) rest(mirror string, r api.Reply) int {
	w.body = w.left[2] + r.Body
	switch {
	case !w.asked, r.Tag != w.left[1], r.From != len(w.left[2]), r.Total < len(w.body):
		return api.Broken
	case r.Class == api.Part && len(w.body) == r.Total:
		return api.Done
	}
	w.change([3]string{mirror, r.Tag, w.body})
	return api.Again
}

func (w *slowWalk) wait(before int) {
	longest := w.config.Base
	for range before - 1 {
		longest *= 2
	}
	if longest > w.config.Cap {
		longest = w.config.Cap
	}
	draw := 0
	if at := len(w.outcome.Waits); at < len(w.world.Draws) && w.world.Draws[at] > 0 {
		draw = w.world.Draws[at]
	}
	ticks := (longest+1)/2 + draw%(longest/2+1)
	w.outcome.Waits = append(w.outcome.Waits, ticks)
	w.outcome.Ticks += ticks
}

// Worlds by chance: their bytes are cut at few places, so that rests fit now and then.

type chance struct{ *rand.Rand }

func (c chance) of(texts ...string) string { return texts[c.Intn(len(texts))] }

func (c chance) list() string {
	list := c.of("a", "a", "b", "off", "direct")
	for range c.Intn(4) {
		list += c.of(",", "|", "|") + c.of("a", "a", "b", "b", "c", "off", "direct")
	}
	return list
}

func (c chance) place(body string) int { return []int{1, 5, 20, len(body) - 1}[c.Intn(4)] }

func (c chance) dial(body string) api.Dial {
	var dial api.Dial
	tag := c.of("q", "q", "q", "r", "")
	wrong := body[:20] + "?" + body[21:]
	switch c.Intn(20) {
	case 0:
		return refusedDial
	case 1:
		return goneDial
	case 2:
		return c.other()
	case 3, 4, 5:
		dial = cutDial(tag, body, c.place(body))
	case 6:
		dial = cutDial(tag, wrong, c.place(body))
	case 7:
		dial = wholeDial(body)
	case 8:
		dial = wholeDial(wrong)
	case 9:
		dial = dialOf(dataEvent(0, ok200+"ETag: "+tag+"\r\n\r\n"+body[:c.place(body)]), resetEvent(c.Intn(3)))
	case 10:
		dial = dialOf(dataEvent(0, ok200+"\r\n"+body), closeEvent(c.Intn(3)))
	case 11, 12, 13:
		first := c.place(body)
		dial = partDial(tag, body, first, len(body), first+c.Intn(len(body)-first+1))
	case 14, 15, 16, 17:
		first := c.place(body)
		dial = partDial(tag, body, first, len(body), len(body))
	case 18:
		first, behind := c.place(body), c.place(body)
		if first < behind {
			dial = partDial(tag, body, first, behind, behind)
		}
	case 19:
		first := c.place(body)
		dial = saying(fmt.Sprintf("%sETag: %s\r\nContent-Length: %d\r\nContent-Range: bytes %d-%d/%d\r\n\r\n%s", ok206, tag, 90, first, first+c.Intn(3), first+3+c.Intn(9), body[:c.Intn(20)]))
	}
	for i := range dial.Events {
		dial.Events[i].Ticks += c.Intn(6) - 1
	}
	return dial
}

func (c chance) other() api.Dial {
	return []api.Dial{busyDial, movedDial, brokenDial, saying("HTTP/1.1 410 x\r\n\r\n"), saying("HTTP/1.1 429 x\r\nETag: q\r\n\r\nabc"),
		saying("HTTP/1.1 599 x\r\n\r\n"), saying("HTTP/1.1 206 x\r\n\r\n"), saying("HTTP/1.1 200"), {}, dialOf(closeEvent(1))}[c.Intn(10)]
}

func (c chance) world(k api.Key) api.World {
	var dials []api.Dial
	for range c.Intn(12) {
		dials = append(dials, c.dial(contentOf(k)))
	}
	return api.World{Dials: dials, Draws: c.draws()}
}

func (c chance) draws() []int {
	var draws []int
	for range c.Intn(6) {
		draws = append(draws, []int{0, 1, 2, 5, 77, -1, -1 << 63, 1<<63 - 1}[c.Intn(8)])
	}
	return draws
}

func (c chance) key() api.Key {
	if c.Intn(12) == 0 {
		return noKeys[c.Intn(len(noKeys))].key
	}
	return []api.Key{headKey, zipKey, zipKey, zipKey, otherKey, otherZip}[c.Intn(6)]
}

func (c chance) config(table string) api.Config {
	return api.Config{Mirrors: c.list(), Sums: table, Tries: 1 + c.Intn(5), Base: c.Intn(20), Cap: c.Intn(60), Deadline: c.Intn(12), Limit: []int{1000, 1000, 1000, 300, 60, 0}[c.Intn(6)]}
}

func (c chance) files() []api.File {
	var files []api.File
	for _, k := range someKeys {
		body := contentOf(k)
		if c.Intn(6) == 0 {
			files = append(files, cacheFile(k, c.of(body, body[1:], "")))
		}
		if c.Intn(2) == 0 {
			files = append(files, leftFile(k, c.of("a q\n", "a r\n", "b q\n", "c q\n", "z q\n", "off q\n", "a \n", " q\n", "a q", "")+c.of(body[:1], body[:5], body[:20], body[:len(body)-1], body, body+"x", "?", "")))
		}
		if c.Intn(6) == 0 {
			files = append(files, api.File{Name: "t/" + tailOf(k), Data: body[:c.Intn(len(body))]})
		}
	}
	return files
}
