package satchel_test

import (
	"fmt"
	"sync"
	"testing"

	"satchel/api"
	"satchel/satchel"
)

type answers struct {
	name, version        api.Errno
	order                int
	orderErr             api.Errno
	escaped, plain       string
	escapedErr, plainErr api.Errno
	digest, inflated     string
	inflatedErr          api.Errno
	files                string
	filesErr             api.Errno
	head, archive        string
	headErr, archiveErr  api.Errno
}

func ask(s string) (a answers) {
	a.name = satchel.CheckName(s)
	a.version = satchel.CheckVersion(s)
	a.order, a.orderErr = satchel.Compare(s, "v1.0.0-b")
	a.escaped, a.escapedErr = satchel.Escape(s)
	a.plain, a.plainErr = satchel.Unescape(s)
	a.digest = satchel.Digest(s)
	a.inflated, a.inflatedErr = satchel.Inflate(s, 100)
	files, e := satchel.Unpack(s, someName, someVersion)
	a.files, a.filesErr = fmt.Sprint(files), e
	a.head, a.headErr = satchel.Sum(api.Head, s, someName, someVersion)
	a.archive, a.archiveErr = satchel.Sum(api.Archive, s, someName, someVersion)
	return a
}

func TestAnswersHangOnArgumentsAlone(t *testing.T) {
	texts := []string{"", "a", "a/B", "!a", "v1.0.0", "v1.0.0-a", "v1.0.0-B", "v1.0.0-01", "v2.0.0", "\xff",
		fixed('a', 'b', 256).text(), fixed('a', 'b').text(), storedBlock(1, "abc"), libraryDeflate("abcabcabc", 9),
		archiveOf(storedFile("a", "one")), archiveOf(storedFile("b", "two"), deflatedFile("a", "one"), storedFile("c", noise(300))), archiveOf(storedFile("a", "one"))[1:],
	}
	var first []answers
	for _, s := range texts {
		first = append(first, ask(s))
	}
	var running sync.WaitGroup
	for start := range texts {
		running.Go(func() {
			for i := range texts {
				at := (start + i) % len(texts)
				if again := ask(texts[at]); again != first[at] {
					t.Errorf("P2: %q: first %v, then %v", texts[at], first[at], again)
				}
			}
		})
	}
	running.Wait()
}
