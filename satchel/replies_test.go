package satchel_test

import (
	"regexp"
	"sort"
	"strconv"
	"strings"

	"satchel/api"
)

// Here is a slow reader of replies, made of the document's words by patterns of whole texts:
// it asks of each first piece of what comes whether it may still become a reply.

const (
	namePart    = `[A-Za-z0-9-]+`
	fieldPart   = `(?:` + namePart + `:[ -~]*\r\n)`
	someField   = `(?:` + namePart + `(?::[ -~]*\r?)?)?` // a field's first bytes
	startPart   = `HTTP/1\.1 [1-5][0-9][0-9] [ -~]*\r\n`
	someStart   = `HTTP/1\.1 (?:[1-5](?:[0-9](?:[0-9](?: [ -~]*\r?)?)?)?)?`
	sizePart    = `[0-9A-Fa-f]{1,6}(?:;[ -~]*)?\r\n`
	someSize    = `(?:[0-9A-Fa-f]{1,6}(?:;[ -~]*)?\r?)?`
	lastPart    = fieldPart + `*\r\n`
	someLast    = fieldPart + `*(?:` + someField + `|\r)`
	rangeNumber = `([0-9]{1,9})`
)

var (
	wholeHead    = regexp.MustCompile(`\A` + startPart + lastPart)
	somewhatHead = regexp.MustCompile(`\A(?:` + someStart + `|` + startPart + someLast + `)\z`)
	wholeField   = regexp.MustCompile(`(?m)^(` + namePart + `): *([ -~]*?) *\r$`)
	wholeSize    = regexp.MustCompile(`\A` + sizePart)
	somewhatSize = regexp.MustCompile(`\A` + someSize + `\z`)
	wholeLast    = regexp.MustCompile(`\A` + lastPart)
	somewhatLast = regexp.MustCompile(`\A` + someLast + `\z`)
	hexDigits    = regexp.MustCompile(`\A[0-9A-Fa-f]+`)
	lengthValue  = regexp.MustCompile(`\A[0-9]{1,9}\z`)
	rangeValue   = regexp.MustCompile(`\Abytes ` + rangeNumber + `-` + rangeNumber + `/` + rangeNumber + `\z`)
)

// How far a reply is.
const (
	open = iota
	complete
	broken
)

// A slowReply is what a first piece of a reply is.
type slowReply struct {
	state   int
	head    bool // it is complete
	toClose bool // a Close would complete it
	told    api.Reply
	last    int // B
}

// slowHead tells of the head alone, and what is behind it.
func slowHead(s string) (r slowReply, fields map[string]string, body string) {
	head := wholeHead.FindString(s)
	if head == "" || len(head) > 400 {
		if len(s) > 400 || !somewhatHead.MatchString(s) && !strings.HasPrefix("HTTP/1.1 ", s) {
			r.state = broken
		}
		return r, nil, ""
	}
	r.head = true
	r.told.Status, _ = strconv.Atoi(head[9:12])
	fields = map[string]string{}
	for _, f := range wholeField.FindAllStringSubmatch(head[strings.Index(head, "\n")+1:], -1) {
		name := strings.ToLower(f[1])
		if _, twice := fields[name]; twice && strings.Contains(" content-length transfer-encoding etag content-range ", " "+name+" ") {
			r.state = broken
		}
		fields[name] = f[2]
	}
	return r, fields, s[len(head):]
}

func isBearing(status int) bool { return status == 200 || status == 206 }

// slowFields holds the head's fields against the document.
func (r *slowReply) slowFields(fields map[string]string, limit int) {
	length, counted := fields["content-length"]
	coding, chunked := fields["transfer-encoding"]
	span, ranged := fields["content-range"]
	total := 0
	if ranged {
		m := rangeValue.FindStringSubmatch(span)
		if m == nil {
			r.state = broken
			return
		}
		a, _ := strconv.Atoi(m[1])
		b, _ := strconv.Atoi(m[2])
		total, _ = strconv.Atoi(m[3])
		if !(a <= b && b < total) {
			r.state = broken
		}
		if r.told.Status == 206 {
			r.told.From, r.last, r.told.Total = a, b, total
		}
	}
	bytes, _ := strconv.Atoi(length)
	if counted && !lengthValue.MatchString(length) || chunked && !strings.EqualFold(coding, "chunked") || counted && chunked ||
		r.told.Status == 206 && !ranged || isBearing(r.told.Status) && (bytes > limit || total > limit) {
		r.state = broken
	}
	r.told.Tag = fields["etag"]
}

// slowChunks reads chunks; body is all that is behind the head.
func (r *slowReply) slowChunks(body string, limit int) {
	lines, sizes := 0, 0
	for {
		line := wholeSize.FindString(body)
		if line == "" {
			if !somewhatSize.MatchString(body) || lines+len(body) > 400 {
				r.state = broken
			}
			return
		}
		size, _ := strconv.ParseInt(hexDigits.FindString(line), 16, 64)
		lines += len(line)
		sizes += int(size)
		body = body[len(line):]
		if lines > 400 || sizes > limit {
			r.state = broken
			return
		}
		if size == 0 {
			break
		}
		chunk := body[:min(int(size), len(body))]
		r.told.Body += chunk
		body = body[len(chunk):]
		if len(body) < 2 {
			if !strings.HasPrefix("\r\n", body) {
				r.state = broken
			}
			return
		}
		if body[:2] != "\r\n" {
			r.state = broken
			return
		}
		body = body[2:]
	}
	last := wholeLast.FindString(body)
	switch {
	case last != "" && lines+len(last) <= 400:
		r.state = complete
	case last != "" || lines+len(body) > 400 || !somewhatLast.MatchString(body):
		r.state = broken
	}
}

// slowPiece tells what the first bytes of a reply are.
func slowPiece(s string, limit int) slowReply {
	r, fields, body := slowHead(s)
	if r.state == broken || !r.head {
		return r
	}
	r.slowFields(fields, limit)
	length, counted := fields["content-length"]
	_, chunked := fields["transfer-encoding"]
	switch {
	case r.state == broken:
		return r
	case !isBearing(r.told.Status):
		r.state = complete
		return r
	case chunked:
		r.slowChunks(body, limit)
	case counted:
		bytes, _ := strconv.Atoi(length)
		r.told.Body = body[:min(bytes, len(body))]
		if len(body) >= bytes {
			r.state = complete
		}
	default:
		r.toClose = true
		r.told.Body = body
		if len(body) > limit {
			r.state = broken
		}
	}
	if r.state == complete && !r.isWholePart() {
		r.state = broken
	}
	return r
}

func (r *slowReply) isWholePart() bool {
	return r.told.Status != 206 || len(r.told.Body) == r.last-r.told.From+1
}

// slowClass is that of a complete reply.
func slowClass(status int) int {
	classes := map[int]int{200: api.Done, 206: api.Part, 404: api.Missing, 410: api.Missing, 429: api.Again}
	if class, ok := classes[status]; ok {
		return class
	}
	if status/100 == 5 {
		return api.Again
	}
	return api.Wrong
}

// A slowWire is all that comes of a dial, up to its end.
type slowWire struct {
	bytes  string
	ticks  []int // of each byte
	closed bool
	end    int // ticks
}

func slowEvents(d api.Dial, deadline int) (w slowWire) {
	if d.Refused {
		return w
	}
	for _, e := range d.Events {
		if e.Ticks > 0 {
			if e.Ticks > deadline || w.end+e.Ticks > deadline {
				w.end = deadline
				return w
			}
			w.end += e.Ticks
		}
		if e.What != 1 {
			w.closed = e.What == 3
			return w
		}
		for range len(e.Data) {
			w.ticks = append(w.ticks, w.end)
		}
		w.bytes += e.Data
	}
	return w
}

func slowRead(d api.Dial, deadline int, limit int) api.Reply {
	deadline = min(max(0, deadline), 100000)
	limit = min(max(0, limit), 4000)
	w := slowEvents(d, deadline)
	// What is broken or complete stays so with more bytes; so the first such piece is sought by halves.
	taken := sort.Search(len(w.bytes)+1, func(n int) bool { return slowPiece(w.bytes[:n], limit).state != open })
	if taken > len(w.bytes) {
		return slowEnd(slowPiece(w.bytes, limit), w)
	}
	r := slowPiece(w.bytes[:taken], limit)
	if r.state == broken {
		return api.Reply{Class: api.Broken, Ticks: w.ticks[taken-1]}
	}
	r.told.Class = slowClass(r.told.Status)
	r.told.Ticks = w.ticks[taken-1]
	return r.told
}

// slowEnd tells of a reply that is still open when nothing comes any more.
func slowEnd(r slowReply, w slowWire) api.Reply {
	r.told.Ticks = w.end
	switch {
	case !w.closed || !r.toClose:
		r.told.Class = api.Again
	case !r.isWholePart():
		return api.Reply{Class: api.Broken, Ticks: w.end}
	default:
		r.told.Class = slowClass(r.told.Status)
	}
	return r.told
}
