package satchel_test

import (
	"fmt"
	"strings"
	"sync"
	"testing"

	"satchel/api"
	"satchel/satchel"
)

type answers struct {
	name, version        api.Errno
	order                int
	orderErr             api.Errno
	escaped, plain       string
	escapedErr, plainErr api.Errno
	digest, inflated     string
	inflatedErr          api.Errno
	files                string
	filesErr             api.Errno
	head, archive        string
	headErr, archiveErr  api.Errno
	reply, ended         api.Reply
	about                api.About
	aboutErr             api.Errno
	list                 string
}

func ask(s string) (a answers) {
	a.name = satchel.CheckName(s)
	a.version = satchel.CheckVersion(s)
	a.order, a.orderErr = satchel.Compare(s, "v1.0.0-b")
	a.escaped, a.escapedErr = satchel.Escape(s)
	a.plain, a.plainErr = satchel.Unescape(s)
	a.digest = satchel.Digest(s)
	a.inflated, a.inflatedErr = satchel.Inflate(s, 100)
	files, e := satchel.Unpack(s, someName, someVersion)
	a.files, a.filesErr = fmt.Sprint(files), e
	a.head, a.headErr = satchel.Sum(api.Head, s, someName, someVersion)
	a.archive, a.archiveErr = satchel.Sum(api.Archive, s, someName, someVersion)
	a.reply = satchel.Read(dialOf(dataEvent(1, s), resetEvent(1)), 9, 100)
	a.ended = satchel.Read(dialOf(dataEvent(1, s), closeEvent(1)), 9, 100)
	a.about, a.aboutErr = satchel.Info(s)
	a.list = strings.Join(satchel.List(s), " ")
	return a
}

func TestAnswersHangOnArgumentsAlone(t *testing.T) {
	texts := []string{"", "a", "a/B", "!a", "v1.0.0", "v1.0.0-a", "v1.0.0-B", "v1.0.0-01", "v2.0.0", "\xff",
		fixed('a', 'b', 256).text(), fixed('a', 'b').text(), storedBlock(1, "abc"), libraryDeflate("abcabcabc", 9),
		archiveOf(storedFile("a", "one")), archiveOf(storedFile("b", "two"), deflatedFile("a", "one"), storedFile("c", noise(300))), archiveOf(storedFile("a", "one"))[1:],
		"v1.0.0\nv0.1.0\nv1.0.0", `{"Version":"v1.0.0","Time":"now"}`, `{"Version":"v2.0.0"}`, `{"Version":"v1.0.0","a":1,"a":1}`,
	}
	texts = append(texts, someReplies...)
	var first []answers
	for _, s := range texts {
		first = append(first, ask(s))
	}
	var running sync.WaitGroup
	for start := range texts {
		running.Go(func() {
			for i := range texts {
				at := (start + i) % len(texts)
				if again := ask(texts[at]); again != first[at] {
					t.Errorf("P2: %q: first %v, then %v", texts[at], first[at], again)
				}
			}
		})
	}
	running.Wait()
}
