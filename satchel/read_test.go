package satchel_test

import (
	"fmt"
	"math/rand"
	"slices"
	"strings"
	"testing"

	"satchel/api"
	"satchel/satchel"
)

const (
	ok200   = "HTTP/1.1 200 OK\r\n"
	ok206   = "HTTP/1.1 206 Part\r\n"
	chunked = ok200 + "Transfer-Encoding: chunked\r\n\r\n"
)

// someReplies are right ones, of every kind of body.
var someReplies = []string{
	ok200 + "Content-Length: 3\r\n\r\nabc",
	ok200 + "Content-Length: 0\r\n\r\n",
	ok200 + "ETag: \"q 1\" \r\n\r\nabc",
	ok200 + "etag:\r\ncontent-length:03\r\n\r\nabc",
	ok206 + "ETag: q\r\nContent-Range: bytes 2-4/9\r\n\r\nabc",
	ok206 + "Content-Length: 3\r\nContent-Range: bytes 0-2/3\r\n\r\nabc",
	ok206 + "content-range: bytes 01-01/2\r\nTransfer-Encoding: chunked\r\n\r\n1\r\na\r\n0\r\n\r\n",
	chunked + "2;x=y\r\nab\r\n1\r\nc\r\n0\r\nA: b\r\n\r\n",
	chunked + "0\r\n\r\n",
	chunked + "00a\r\n0123456789\r\n00;\r\nContent-Length: x\r\nContent-Length:\r\n\r\n",
	"HTTP/1.1 404 \r\n\r\n",
	"HTTP/1.1 429 slow down\r\nA-b-9:x\r\nETag: t\r\n\r\nnot read",
	"HTTP/1.1 503 x\r\nContent-Length: 999999999\r\n\r\n",
	"HTTP/1.1 301 x\r\nContent-Range: bytes 0-5/999999999\r\n\r\n",
	"HTTP/1.1 100 \r\nTransfer-Encoding: CHUNKED\r\n\r\n",
}

func dataEvent(ticks int, s string) api.Event {
	return api.Event{Ticks: ticks, What: api.Data, Data: s}
}

func resetEvent(ticks int) api.Event { return api.Event{Ticks: ticks, What: api.Reset} }

func closeEvent(ticks int) api.Event { return api.Event{Ticks: ticks, What: api.Close} }

func dialOf(events ...api.Event) api.Dial { return api.Dial{Events: events} }

func checkRead(t *testing.T, d api.Dial, deadline int, limit int, want api.Reply) {
	t.Helper()
	if got := satchel.Read(d, deadline, limit); got != want {
		t.Errorf("P6: Read(%.300q, %d, %d) = %.300q, want %.300q", fmt.Sprint(d), deadline, limit, fmt.Sprintf("%+v", got), fmt.Sprintf("%+v", want))
	}
}

func checkReadAsReference(t *testing.T, d api.Dial, deadline int, limit int) {
	t.Helper()
	checkRead(t, d, deadline, limit, slowRead(d, deadline, limit))
}

// checkText reads a text that is cut off, and one that is ended.
func checkText(t *testing.T, s string, limit int) {
	t.Helper()
	checkReadAsReference(t, dialOf(dataEvent(1, s)), 9, limit)
	checkReadAsReference(t, dialOf(dataEvent(1, s), closeEvent(2)), 9, limit)
}

func TestReadDocument(t *testing.T) {
	for _, c := range []struct {
		s    string
		end  api.Event
		want api.Reply
	}{
		{ok200 + "Content-Length: 3\r\n\r\nabcd", resetEvent(0), api.Reply{Class: api.Done, Status: 200, Body: "abc"}},
		{someReplies[7], resetEvent(0), api.Reply{Class: api.Done, Status: 200, Body: "abc"}},
		{"HTTP/1.1 404 \r\n\r\n", resetEvent(0), api.Reply{Class: api.Missing, Status: 404}},
		{"HTTP/1.1 503 x\r\n\r\n", resetEvent(0), api.Reply{Class: api.Again, Status: 503}},
		{"HTTP/1.1 301 x\r\n\r\n", resetEvent(0), api.Reply{Class: api.Wrong, Status: 301}},
		{"HTTP/1.0", resetEvent(0), api.Reply{Class: api.Broken}},
		{ok200 + "ETag: q\r\n\r\nab", resetEvent(0), api.Reply{Class: api.Again, Status: 200, Tag: "q", Body: "ab"}},
		{ok200 + "ETag: q\r\n\r\nab", closeEvent(0), api.Reply{Class: api.Done, Status: 200, Tag: "q", Body: "ab"}},
	} {
		checkRead(t, dialOf(dataEvent(0, c.s), c.end), 100, 100, c.want)
	}
}

func TestReadStatuses(t *testing.T) {
	for status := range 1000 {
		want := api.Reply{Class: api.Wrong, Status: status, Tag: "t"}
		switch {
		case status < 100 || status > 599 || status == 206:
			want = api.Reply{Class: api.Broken}
		case status == 200:
			want.Class = api.Done
		case status == 404 || status == 410:
			want.Class = api.Missing
		case status == 429 || status >= 500:
			want.Class = api.Again
		}
		s := fmt.Sprintf("HTTP/1.1 %03d words\r\nETag: t\r\n\r\n", status)
		if status == 200 {
			checkRead(t, dialOf(dataEvent(0, s), closeEvent(0)), 9, 9, want)
			continue
		}
		checkRead(t, dialOf(dataEvent(0, s)), 9, 9, want)
		checkRead(t, dialOf(dataEvent(0, s+"body"), closeEvent(0)), 9, 9, want)
	}
	for _, status := range []string{"", " ", "2", "20", "2000", "20 ", "-20", "2a0", "+200", "0200", "600", "999", "099", "000"} {
		checkRead(t, dialOf(dataEvent(0, "HTTP/1.1 "+status+" words\r\n\r\n")), 9, 9, api.Reply{Class: api.Broken})
	}
}

// TestReadEveryByte turns each byte into each other one.
func TestReadEveryByte(t *testing.T) {
	t.Parallel()
	for _, s := range []string{someReplies[7], someReplies[6], someReplies[2]} {
		for at := range len(s) {
			for c := range 256 {
				turned := s[:at] + string([]byte{byte(c)}) + s[at+1:]
				checkReadAsReference(t, dialOf(dataEvent(1, turned), closeEvent(2)), 9, 9)
			}
		}
	}
}

func TestReadMoreOrFewerBytes(t *testing.T) {
	t.Parallel()
	for _, s := range someReplies {
		checkText(t, s, 100)
		for at := range len(s) {
			checkText(t, s[:at], 100)
			checkText(t, s[at+1:], 100)
			checkText(t, s[:at]+s[at+1:], 100)
			for i := range len("\r\n\x00\x1f\x7f\xff \t;:-0aGz") {
				checkText(t, s[:at]+"\r\n\x00\x1f\x7f\xff \t;:-0aGz"[i:i+1]+s[at:], 100)
			}
			for _, more := range []string{"\r\n", "A: b\r\n", "ETag: z\r\n", "0\r\n", s[at : at+1]} {
				checkText(t, s[:at]+more+s[at:], 100)
			}
		}
	}
}

func TestReadAllShortTexts(t *testing.T) {
	t.Parallel()
	check := func(limit int, ahead string, behind string) func(string) {
		return func(s string) { checkText(t, ahead+s+behind, limit) }
	}
	eachText("HT/", 4, check(9, "", ""))
	eachText("12 \r\n", 5, check(9, "HTTP/1.1 2", ""))
	eachText("aA:\r\n ", 6, check(9, ok200, ""))
	eachText("019 a-", 4, check(9, ok200+"Content-Length:", "\r\n\r\n012345678901234567890"))
	eachText("01;\r\na", 6, check(9, chunked, ""))
	eachText("a:\r\n", 6, check(9, chunked+"0\r\n", ""))
	eachText("a\r\n0", 5, check(9, chunked+"2\r\na", ""))
	eachText("12-/ ", 6, check(9, ok206+"Content-Range: bytes ", "\r\n\r\na"))
}

func TestReadFields(t *testing.T) {
	t.Parallel()
	names := []string{"Content-Length", "Transfer-Encoding", "ETag", "Content-Range", "X", "Content_Length", "ContentLength", "Content-Lengt", "Content-Lengths", "Tag", "E-Tag", "TE"}
	values := []string{"", "0", "1", "3", "003", "10", "11", "999999999", "1000000000", "0000000003", "3a", "a3", "+3", "-3", "3 3", "3,3", "0x3",
		"chunked", "CHUNKED", "cHuNkEd", "chunked,", "gzip", "gzip, chunked", "chunked chunked", "identity", "chunke", "chunkedd",
		"bytes 0-2/3", "bytes 00-02/03", "bytes 0-0/1", "bytes 7-9/10", "bytes 8-10/11", "bytes 000000000-000000002/000000003", "bytes 0000000000-2/3", "bytes 0-0000000002/3", "bytes 0-2/0000000003",
		"bytes 0-2/2", "bytes 3-2/9", "bytes 0-2/*", "bytes */3", "bytes 0-2", "bytes=0-2/3", "bytes  0-2/3", "bytes0-2/3", "Bytes 0-2/3", "BYTES 0-2/3", "bytes 0-2/3/3", "bytes 0-1-2/3", "bytes 0 - 2/3", "bytes -2/3", "bytes 0-/3", "bytes 0-2/", "bytes", "bytes ", "bytes 0-2/999999999", "byte 0-2/3", "0-2/3", "bytes 1-3/4",
		"q", "\"q\"", "W/\"q\"", "a  b", "~!@#", "a:b"}
	var lines []string
	for _, name := range names {
		for _, cased := range []string{name, strings.ToLower(name), strings.ToUpper(name), strings.ToUpper(name[:1]) + strings.ToLower(name[1:])} {
			for _, value := range values {
				lines = append(lines, cased+": "+value+"\r\n")
			}
		}
	}
	for _, line := range lines {
		for _, start := range []string{ok200, ok206, "HTTP/1.1 404 x\r\n"} {
			checkText(t, start+line+"\r\nabc", 10)
			checkText(t, start+strings.Replace(line, ": ", ":", 1)+"\r\nabc", 10)
			checkText(t, start+strings.Replace(line, ": ", ":    ", 1)+"\r\nabc", 10)
			checkText(t, start+strings.Replace(line, "\r", "   \r", 1)+"\r\nabc", 10)
			checkText(t, start+line+line+"\r\nabc", 10)
		}
	}
	source := rand.New(rand.NewSource(3))
	for range 20000 {
		s := []string{ok200, ok206, "HTTP/1.1 500 x\r\n"}[source.Intn(3)]
		for range source.Intn(4) {
			s += lines[source.Intn(len(lines))]
		}
		checkText(t, s+"\r\n"+[]string{"", "abc", "1\r\na\r\n0\r\n\r\n", "3\r\nabc\r\n0\r\n\r\n"}[source.Intn(4)], 10)
	}
}

func TestReadFieldsTwice(t *testing.T) {
	for name, values := range map[string][]string{
		"Content-Length": {"3", "03"}, "Transfer-Encoding": {"chunked", "Chunked"}, "ETag": {"a", "b", ""}, "Content-Range": {"bytes 0-2/3", "bytes 0-2/4"},
	} {
		for _, first := range values {
			for _, second := range values {
				for _, status := range []string{"200", "206", "404", "503", "301"} {
					s := "HTTP/1.1 " + status + " x\r\n" + name + ": " + first + "\r\nOther: a\r\n" + strings.ToLower(name) + ":" + second + "\r\n"
					checkRead(t, dialOf(dataEvent(2, s+"\r\n")), 9, 9, api.Reply{Class: api.Broken, Ticks: 2})
					// It is broken at its end, and not ahead of that.
					checkRead(t, dialOf(dataEvent(2, s+"\r")), 9, 9, api.Reply{Class: api.Again, Ticks: 2})
				}
			}
		}
	}
	checkRead(t, dialOf(dataEvent(0, ok200+"Other: a\r\nOther: a\r\nother: b\r\nContent-Length: 1\r\n\r\na")), 9, 9, api.Reply{Class: api.Done, Status: 200, Body: "a"})
}

// TestReadHeadBytes has heads of MaxHead bytes and of one more.
func TestReadHeadBytes(t *testing.T) {
	for _, c := range []struct {
		ahead, behind string
		want          api.Reply
	}{
		{"HTTP/1.1 404 ", "\r\n\r\n", api.Reply{Class: api.Missing, Status: 404}},
		{"HTTP/1.1 404 \r\nA:", "\r\n\r\n", api.Reply{Class: api.Missing, Status: 404}},
		{"HTTP/1.1 404 \r\n", ":\r\n\r\n", api.Reply{Class: api.Missing, Status: 404}},
		{"HTTP/1.1 404 \r\nA: b\r\nC:", "\r\nETag: d\r\n\r\n", api.Reply{Class: api.Missing, Status: 404, Tag: "d"}},
		{ok200 + "Content-Length: 0\r\nA: ", "\r\n\r\n", api.Reply{Class: api.Done, Status: 200}},
		{ok200 + "Content-Length: 1\r\nA: ", "\r\n\r\na", api.Reply{Class: api.Done, Status: 200, Body: "a"}},
		{ok200 + "Transfer-Encoding: chunked\r\nA: ", "\r\n\r\n1\r\na\r\n0\r\nA: b\r\n\r\n", api.Reply{Class: api.Done, Status: 200, Body: "a"}},
	} {
		body := c.behind[strings.Index(c.behind, "\r\n\r\n")+4:]
		fill := 400 - len(c.ahead) - len(c.behind) + len(body)
		right := c.ahead + strings.Repeat("x", fill) + c.behind
		long := c.ahead + strings.Repeat("x", fill+1) + c.behind
		checkRead(t, dialOf(dataEvent(0, right)), 9, 9, c.want)
		checkRead(t, dialOf(dataEvent(0, long)), 9, 9, api.Reply{Class: api.Broken})
		checkRead(t, dialOf(dataEvent(0, long[:400])), 9, 9, api.Reply{Class: api.Again})
		checkRead(t, dialOf(dataEvent(0, long[:400]), dataEvent(1, long[400:401])), 9, 9, api.Reply{Class: api.Broken, Ticks: 1})
		for at := 395; at < 405; at++ {
			checkText(t, (right + "......")[:at], 9)
			checkText(t, (long + "......")[:at], 9)
		}
	}
	checkRead(t, dialOf(dataEvent(0, "HTTP/1.1 404 "+strings.Repeat("x", 387))), 9, 9, api.Reply{Class: api.Again})
	checkRead(t, dialOf(dataEvent(0, "HTTP/1.1 404 "+strings.Repeat("x", 388))), 9, 9, api.Reply{Class: api.Broken})
}

// TestReadChunkLines has size lines and last lines of MaxHead bytes together, and of one more.
func TestReadChunkLines(t *testing.T) {
	t.Parallel()
	// Each chunk has a line of five bytes; the line end behind its byte is of no line.
	chunks := func(many int) string { return strings.Repeat("1;x\r\na\r\n", many) }
	for _, c := range []struct {
		s    string
		many int // chunks that come, if it is not broken
	}{
		{chunks(79) + "0\r\n\r\n", 79},
		{chunks(79) + "00\r\n\r\n", -1},
		{chunks(79) + "0;\r\n\r\n", -1},
		{chunks(80) + "0\r\n\r\n", -1},
		{"01;x\r\na\r\n" + chunks(78) + "0\r\n\r\n", -1},
		{"1;xx\r\na\r\n" + chunks(78) + "0\r\n\r\n", -1},
		{"1;\r\na\r\n" + chunks(78) + "00\r\n\r\n", 79},
		{chunks(78) + "0\r\nA:b\r\n\r\n", 78},
		{chunks(78) + "0\r\nA:bc\r\n\r\n", -1},
		{chunks(77) + "0\r\nA:b\r\nA:c\r\n\r\n", 77},
		{chunks(77) + "0\r\nA:b\r\nAA:c\r\n\r\n", -1},
	} {
		want := api.Reply{Class: api.Broken}
		if c.many >= 0 {
			want = api.Reply{Class: api.Done, Status: 200, Body: strings.Repeat("a", c.many)}
		}
		checkRead(t, dialOf(dataEvent(0, chunked+c.s)), 9, 100, want)
	}
	for _, form := range []struct{ ahead, behind string }{
		{"0;", "\r\n\r\n"}, {"0\r\nA:", "\r\n\r\n"}, {"0\r\n", ":\r\n\r\n"}, {"2\r\nab\r\n0\r\nA:", "\r\n\r\n"}, {"2;", "\r\n\r\n\r\n0\r\n\r\n"},
	} {
		inChunks := 0
		if form.ahead[0] == '2' {
			inChunks = len("ab\r\n")
		}
		for bytes := 380; bytes < 410; bytes++ {
			fill := strings.Repeat("x", bytes-len(form.ahead+form.behind)+inChunks)
			// The head's bytes are counted by themselves.
			s := ok200 + "Transfer-Encoding: chunked\r\nA: " + strings.Repeat("y", 300) + "\r\n\r\n" + form.ahead + fill + form.behind
			for cut := range 7 {
				checkText(t, s[:len(s)-cut], 9)
			}
			want := api.Done
			if bytes > 400 {
				want = api.Broken
			}
			if got := satchel.Read(dialOf(dataEvent(0, s)), 9, 9); got.Class != want {
				t.Errorf("P6: %d bytes of lines: class %d, want %d", bytes, got.Class, want)
			}
		}
	}
}

func TestReadChunkSizes(t *testing.T) {
	again := func(body string) api.Reply { return api.Reply{Class: api.Again, Status: 200, Body: body} }
	isBroken := api.Reply{Class: api.Broken}
	for _, c := range []struct {
		s     string
		limit int
		want  api.Reply
	}{
		{"a\r\n0123456789\r\n0\r\n\r\n", 10, api.Reply{Class: api.Done, Status: 200, Body: "0123456789"}},
		{"A\r\n0123456789\r\n0\r\n\r\n", 10, api.Reply{Class: api.Done, Status: 200, Body: "0123456789"}},
		{"00000a\r\n0123456789\r\n000000\r\n\r\n", 10, api.Reply{Class: api.Done, Status: 200, Body: "0123456789"}},
		{"000000a\r\n", 10, isBroken}, {"0000000", 10, isBroken}, {"000000", 10, again("")},
		{"a\r\n", 9, isBroken}, {"a\r", 9, again("")}, {"a;words", 9, again("")}, {"a;words\r\n", 9, isBroken},
		{"5\r\n01234\r\n5\r\n", 10, again("01234")}, {"5\r\n01234\r\n6\r\n", 10, isBroken}, {"5\r\n01234\r\n6\r", 10, again("01234")},
		{"1\r\n", 0, isBroken}, {"0\r\n\r\n", 0, api.Reply{Class: api.Done, Status: 200}},
		{"ffffff\r\n", 4000, isBroken}, {"FFFFFF\r\n", 4000, isBroken}, {"ffffff\r", 4000, again("")},
		{"fa1\r\n", 4000, isBroken}, {"fa0\r\n", 4000, again("")}, {"fa0\r\n", 1 << 40, again("")}, {"fa1\r\n", 1 << 40, isBroken},
		{"f9f\r\n" + noise(3999) + "\r\n1\r\nx\r\n0\r\n\r\n", 4000, api.Reply{Class: api.Done, Status: 200, Body: noise(3999) + "x"}},
		{"f9f\r\n" + noise(3999) + "\r\n2\r\n", 4000, isBroken},
		{"2\r\n\r\n\r\n0\r\n\r\n", 9, api.Reply{Class: api.Done, Status: 200, Body: "\r\n"}},
		{"2\r\n0\r", 9, again("0\r")}, {"1\r\na\r", 9, again("a")}, {"1\r\na\n", 9, isBroken}, {"1\r\na\ra", 9, isBroken}, {"1\r\nab", 9, isBroken},
		{"0\r\n", 9, again("")}, {"0\r\n\r", 9, again("")}, {"0\r\n\r\r", 9, isBroken}, {"0\r\n ", 9, isBroken}, {"0\r\n:", 9, isBroken},
		{"-1", 9, isBroken}, {"+", 9, isBroken}, {" 1", 9, isBroken}, {"1 ", 9, isBroken}, {"0x", 9, isBroken}, {";", 9, isBroken}, {"\r", 9, isBroken}, {"g", 9, isBroken}, {"G", 9, isBroken}, {"@", 9, isBroken}, {"`", 9, isBroken}, {"/", 9, isBroken}, {":", 9, isBroken},
		{"1;\t", 9, isBroken}, {"1;\x7f", 9, isBroken}, {"1;\n", 9, isBroken}, {"1\n", 9, isBroken},
	} {
		checkRead(t, dialOf(dataEvent(0, chunked+c.s)), 9, c.limit, c.want)
		// A Close ends no chunks.
		checkRead(t, dialOf(dataEvent(0, chunked+c.s), closeEvent(0)), 9, c.limit, c.want)
	}
	for size := range 300 {
		for _, form := range []string{"%x", "%X", "%06x", "%04X;a=b"} {
			line := fmt.Sprintf(form, size)
			s := chunked + line + "\r\n" + noise(size) + "\r\n0\r\n\r\n"
			if size > 0 {
				checkRead(t, dialOf(dataEvent(0, s)), 9, size, api.Reply{Class: api.Done, Status: 200, Body: noise(size)})
				checkRead(t, dialOf(dataEvent(0, s)), 9, size-1, isBroken)
			}
		}
	}
}

func TestReadLimit(t *testing.T) {
	length := func(n int) string {
		return fmt.Sprintf("%sContent-Length: %d\r\n\r\n%s", ok200, n, noise(min(n, 5000)))
	}
	for _, c := range []struct{ given, limit int }{
		{0, 0}, {1, 1}, {30, 30}, {3999, 3999}, {4000, 4000}, {4001, 4000}, {5000, 4000}, {1<<63 - 1, 4000}, {-1, 0}, {-1 << 63, 0},
	} {
		for n := max(0, c.limit-1); n <= c.limit+1; n++ {
			want := api.Reply{Class: api.Done, Status: 200, Body: noise(n)}
			wantPart := api.Reply{Class: api.Again, Status: 206, Total: n}
			if n > c.limit {
				want = api.Reply{Class: api.Broken}
				wantPart = want
			}
			checkRead(t, dialOf(dataEvent(0, length(n))), 9, c.given, want)
			checkRead(t, dialOf(dataEvent(0, ok200+"\r\n"+noise(n)), closeEvent(0)), 9, c.given, want)
			if n == 0 {
				continue
			}
			checkRead(t, dialOf(dataEvent(0, fmt.Sprintf("%s%x\r\n%s\r\n0\r\n\r\n", chunked, n, noise(n)))), 9, c.given, want)
			checkRead(t, dialOf(dataEvent(0, fmt.Sprintf("%sContent-Range: bytes 0-0/%d\r\n\r\n", ok206, n))), 9, c.given, wantPart)
			// T counts with 200 too, though it is not told.
			if wantPart.Class == api.Again {
				wantPart = api.Reply{Class: api.Again, Status: 200}
			}
			checkRead(t, dialOf(dataEvent(0, fmt.Sprintf("%sContent-Range: bytes 0-0/%d\r\n\r\n", ok200, n))), 9, c.given, wantPart)
			checkRead(t, dialOf(dataEvent(0, fmt.Sprintf("HTTP/1.1 404 x\r\nContent-Range: bytes 0-0/%d\r\n\r\n", n))), 9, c.given, api.Reply{Class: api.Missing, Status: 404})
		}
	}
	// A body that goes to the end is broken at the byte behind the limit; not ahead of it, and not with the Close.
	checkRead(t, dialOf(dataEvent(1, ok200+"\r\nabc"), dataEvent(2, "d"), dataEvent(4, "e")), 9, 3, api.Reply{Class: api.Broken, Ticks: 3})
	checkRead(t, dialOf(dataEvent(1, ok200+"\r\nabc"), resetEvent(2)), 9, 3, api.Reply{Class: api.Again, Status: 200, Body: "abc", Ticks: 3})
}

func TestReadParts(t *testing.T) {
	for first := range 5 {
		for last := range 6 {
			for bytes := range 6 {
				head := fmt.Sprintf("%sETag: q\r\nContent-Range: bytes %d-%d/6\r\n", ok206, first, last)
				body := "abcdef"[:bytes]
				want := api.Reply{Class: api.Broken}
				cut := want
				if first <= last {
					cut = api.Reply{Class: api.Again, Status: 206, Tag: "q", Body: body, From: first, Total: 6}
				}
				if last-first+1 == bytes && bytes > 0 {
					want = cut
					want.Class = api.Part
				}
				size := fmt.Sprint("Content-Length: ", bytes, "\r\n")
				chunks := fmt.Sprint(bytes, "\r\n", body, "\r\n0\r\n\r\n")
				if bytes == 0 {
					chunks = "0\r\n\r\n"
				}
				checkRead(t, dialOf(dataEvent(0, head+"\r\n"+body), closeEvent(0)), 9, 6, want)
				checkRead(t, dialOf(dataEvent(0, head+size+"\r\n"+body)), 9, 6, want)
				checkRead(t, dialOf(dataEvent(0, head+"Transfer-Encoding: chunked\r\n\r\n"+chunks)), 9, 6, want)
				// What is cut off is told as it came, be it more or less.
				checkRead(t, dialOf(dataEvent(0, head+"\r\n"+body), resetEvent(0)), 9, 6, cut)
			}
		}
	}
	checkRead(t, dialOf(dataEvent(0, ok206+"\r\n"), closeEvent(0)), 9, 9, api.Reply{Class: api.Broken})
	checkRead(t, dialOf(dataEvent(0, ok200+"Content-Range: bytes 1-1/2\r\n\r\nabc"), closeEvent(0)), 9, 9, api.Reply{Class: api.Done, Status: 200, Body: "abc"})
}

func TestReadTicks(t *testing.T) {
	const most = 1<<63 - 1
	head := ok200 + "Content-Length: 2\r\n\r\n"
	done := func(ticks int) api.Reply {
		return api.Reply{Class: api.Done, Status: 200, Body: "ab", Ticks: ticks}
	}
	cut := func(body string, ticks int) api.Reply {
		return api.Reply{Class: api.Again, Status: 200, Body: body, Ticks: ticks}
	}
	again := func(ticks int) api.Reply { return api.Reply{Class: api.Again, Ticks: ticks} }
	for _, c := range []struct {
		d        api.Dial
		deadline int
		want     api.Reply
	}{
		{dialOf(), 9, again(0)},
		{dialOf(), -1, again(0)},
		{dialOf(resetEvent(4)), 9, again(4)},
		{dialOf(closeEvent(4)), 9, again(4)},
		{dialOf(closeEvent(9)), 9, again(9)},
		{dialOf(closeEvent(10)), 9, again(9)},
		{dialOf(resetEvent(-4)), 9, again(0)},
		{dialOf(resetEvent(most)), 9, again(9)},
		{dialOf(resetEvent(-1 << 63)), 9, again(0)},
		{dialOf(dataEvent(5, head), dataEvent(-3, "a"), dataEvent(4, "b")), 9, done(9)},
		{dialOf(dataEvent(5, head), dataEvent(-3, "a"), dataEvent(5, "b")), 9, cut("a", 9)},
		{dialOf(dataEvent(5, head+"ab"), dataEvent(5, "c")), 9, done(5)},
		{dialOf(dataEvent(5, head+"a"), dataEvent(1, ""), dataEvent(1, ""), dataEvent(1, "bc"), dataEvent(1, "")), 9, done(8)},
		{dialOf(dataEvent(5, head+"a"), dataEvent(5, ""), dataEvent(0, "b")), 9, cut("a", 9)},
		{dialOf(dataEvent(10, head+"ab")), 9, again(9)},
		{dialOf(dataEvent(9, head+"ab")), 9, done(9)},
		{dialOf(dataEvent(0, head+"ab")), 0, done(0)},
		{dialOf(dataEvent(0, head+"ab")), -9, done(0)},
		{dialOf(dataEvent(1, head+"ab")), 0, again(0)},
		{dialOf(dataEvent(1, head+"ab")), -9, again(0)},
		{dialOf(dataEvent(1, head+"ab")), -1 << 63, again(0)},
		{dialOf(dataEvent(99999, head+"a"), dataEvent(1, "b")), 100000, done(100000)},
		{dialOf(dataEvent(99999, head+"a"), dataEvent(2, "b")), 100000, cut("a", 100000)},
		{dialOf(dataEvent(99999, head+"a"), dataEvent(2, "b")), 100001, cut("a", 100000)},
		{dialOf(dataEvent(99999, head+"a"), dataEvent(2, "b")), most, cut("a", 100000)},
		{dialOf(dataEvent(1, head+"a"), dataEvent(most, "b")), most, cut("a", 100000)},
		{dialOf(dataEvent(most, head+"a"), dataEvent(most, "b")), most, again(100000)},
		{dialOf(dataEvent(3, "H"), dataEvent(3, "x"), dataEvent(3, "y")), 9, api.Reply{Class: api.Broken, Ticks: 6}},
		{dialOf(dataEvent(3, "Hx"), resetEvent(20)), 9, api.Reply{Class: api.Broken, Ticks: 3}},
		{dialOf(dataEvent(3, "H"), dataEvent(7, "x")), 9, again(9)},
		{dialOf(dataEvent(3, "HTTP/1.1 410 x\r\n\r"), dataEvent(2, "\nabc"), dataEvent(1, "d")), 9, api.Reply{Class: api.Missing, Status: 410, Ticks: 5}},
		{dialOf(dataEvent(3, ok200+"\r\na"), closeEvent(6)), 9, api.Reply{Class: api.Done, Status: 200, Body: "a", Ticks: 9}},
		{dialOf(dataEvent(3, ok200+"\r\na"), closeEvent(7)), 9, cut("a", 9)},
		{dialOf(dataEvent(3, ok200+"\r\na"), resetEvent(1), dataEvent(1, "b"), closeEvent(0)), 9, cut("a", 4)},
		{dialOf(dataEvent(3, ok200+"\r\na"), closeEvent(1), dataEvent(1, "b"), resetEvent(0)), 9, api.Reply{Class: api.Done, Status: 200, Body: "a", Ticks: 4}},
		{dialOf(dataEvent(3, head+"a"), closeEvent(1), dataEvent(1, "b")), 9, cut("a", 4)},
	} {
		checkRead(t, c.d, c.deadline, 9, c.want)
		checkReadAsReference(t, c.d, c.deadline, 9)
		c.d.Refused = true
		checkRead(t, c.d, c.deadline, 9, again(0))
	}
}

func TestReadOtherEvents(t *testing.T) {
	for _, what := range []int{0, -1, 2, 4, 77, 257, 258, 259, 1<<32 + 1, 1<<32 + 3, 1<<63 - 1, -1 << 63} {
		// What such an event has with it is no bytes.
		odd := api.Event{Ticks: 2, What: what, Data: "b"}
		checkRead(t, dialOf(dataEvent(1, ok200+"\r\na"), odd, dataEvent(0, "c"), closeEvent(0)), 9, 9, api.Reply{Class: api.Again, Status: 200, Body: "a", Ticks: 3})
	}
	odd := api.Event{Ticks: 2, What: api.Close, Data: "b"}
	checkRead(t, dialOf(dataEvent(1, ok200+"\r\na"), odd), 9, 9, api.Reply{Class: api.Done, Status: 200, Body: "a", Ticks: 3})
}

// TestReadPieces lets replies come in two and three pieces, and byte by byte.
func TestReadPieces(t *testing.T) {
	t.Parallel()
	for _, s := range someReplies {
		for at := range len(s) + 1 {
			for _, end := range []api.Event{resetEvent(1), closeEvent(1), dataEvent(1, "more")} {
				for _, deadline := range []int{9, 8, 7, 6, 3, 2} {
					checkReadAsReference(t, dialOf(dataEvent(3, s[:at]), dataEvent(4, s[at:]), end), deadline, 100)
				}
				for to := at; to <= len(s); to += 3 {
					checkReadAsReference(t, dialOf(dataEvent(0, s[:at]), dataEvent(2, s[at:to]), dataEvent(4, s[to:]), end), 6, 100)
				}
			}
		}
		var events []api.Event
		for i := range len(s) {
			events = append(events, dataEvent(1, s[i:i+1]))
		}
		for deadline := range len(s) + 2 {
			checkReadAsReference(t, dialOf(append(slices.Clone(events), closeEvent(0))...), deadline, 100)
		}
		for limit := range 12 {
			checkReadAsReference(t, dialOf(append(slices.Clone(events), closeEvent(0))...), 1000, limit)
		}
	}
}

func TestReadLongDials(t *testing.T) {
	var many []api.Event
	for range 300000 {
		many = append(many, dataEvent(0, ""))
	}
	many = append(many, dataEvent(3, ok200+"Content-Length: 1\r\n\r\na"), resetEvent(1))
	checkRead(t, dialOf(many...), 9, 9, api.Reply{Class: api.Done, Status: 200, Body: "a", Ticks: 3})
	var slow []api.Event
	for range 300000 {
		slow = append(slow, dataEvent(1, ""))
	}
	checkRead(t, dialOf(slow...), 1<<40, 9, api.Reply{Class: api.Again, Ticks: 100000})
	for _, s := range longTexts() {
		checkRead(t, dialOf(dataEvent(0, s)), 9, 9, api.Reply{Class: api.Broken})
		checkRead(t, dialOf(dataEvent(0, ok200+"\r\n"+s), closeEvent(0)), 9, 1<<40, api.Reply{Class: api.Broken})
		checkRead(t, dialOf(dataEvent(0, ok200+"Content-Length: 4000\r\n\r\n"+s)), 9, 4000, api.Reply{Class: api.Done, Status: 200, Body: s[:4000]})
		checkRead(t, dialOf(dataEvent(0, "HTTP/1.1 404 "+s)), 9, 9, api.Reply{Class: api.Broken})
		checkRead(t, dialOf(dataEvent(0, ok200+"A: "+s)), 9, 9, api.Reply{Class: api.Broken})
		checkRead(t, dialOf(dataEvent(0, ok200+s)), 9, 9, api.Reply{Class: api.Broken})
		checkRead(t, dialOf(dataEvent(0, chunked+"1;"+s)), 9, 9, api.Reply{Class: api.Broken})
		checkRead(t, dialOf(dataEvent(0, chunked+"0\r\n"+s)), 9, 9, api.Reply{Class: api.Broken})
	}
	checkRead(t, dialOf(dataEvent(0, chunked+strings.Repeat("1\r\na\r\n", 1000000))), 9, 4000, api.Reply{Class: api.Broken})
	checkRead(t, dialOf(dataEvent(0, ok200+strings.Repeat("A:b\r\n", 1000000))), 9, 4000, api.Reply{Class: api.Broken})
}

func TestReadAnswersNewMemory(t *testing.T) {
	for _, head := range []string{"ETag: a long tag\r\nContent-Length: 500\r\n\r\n", "ETag: a long tag\r\n\r\n", "ETag: a long tag\r\nTransfer-Encoding: chunked\r\n\r\n1F4\r\n"} {
		for _, end := range []api.Event{closeEvent(1), resetEvent(1), dataEvent(1, "\r\n0\r\n\r\n")} {
			events := []api.Event{dataEvent(1, ok200+head), dataEvent(2, noise(500)), end}
			given := slices.Clone(events)
			r := satchel.Read(dialOf(events...), 9, 1000)
			if r.Tag != "a long tag" || !strings.HasPrefix(r.Body, noise(500)) {
				t.Errorf("P6: %q: the tag %q, %d bytes", head, r.Tag, len(r.Body))
			}
			for _, e := range events {
				if shares(e.Data, r.Tag) || shares(e.Data, r.Body) {
					t.Errorf("P2: the reply to %q shares memory", head)
				}
			}
			if !slices.Equal(events, given) {
				t.Errorf("P2: Read changed %q", head)
			}
		}
	}
}
