package satchel_test

import (
	"sync"
	"testing"

	"satchel/api"
	"satchel/satchel"
)

type answers struct {
	name, version        api.Errno
	order                int
	orderErr             api.Errno
	escaped, plain       string
	escapedErr, plainErr api.Errno
}

func ask(s string) (a answers) {
	a.name = satchel.CheckName(s)
	a.version = satchel.CheckVersion(s)
	a.order, a.orderErr = satchel.Compare(s, "v1.0.0-b")
	a.escaped, a.escapedErr = satchel.Escape(s)
	a.plain, a.plainErr = satchel.Unescape(s)
	return a
}

func TestAnswersHangOnArgumentsAlone(t *testing.T) {
	texts := []string{"", "a", "a/B", "!a", "v1.0.0", "v1.0.0-a", "v1.0.0-B", "v1.0.0-01", "v2.0.0", "\xff"}
	var first []answers
	for _, s := range texts {
		first = append(first, ask(s))
	}
	var running sync.WaitGroup
	for start := range texts {
		running.Go(func() {
			for i := range texts {
				at := (start + i) % len(texts)
				if again := ask(texts[at]); again != first[at] {
					t.Errorf("P2: %q: first %v, then %v", texts[at], first[at], again)
				}
			}
		})
	}
	running.Wait()
}
