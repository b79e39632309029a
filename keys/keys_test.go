package keys

import (
	"errors"
	"testing"

	"satchel/api"
	"satchel/fault"
	"satchel/names"
)

func TestCheckTellsTheFirstFault(t *testing.T) {
	for _, c := range []struct {
		key    api.Key
		reason error
	}{
		{api.Key{Kind: 0, Name: "", Version: ""}, fault.ErrArg},
		{api.Key{Kind: 3, Name: "x", Version: "v1.0.0"}, errKind},
		{api.Key{Kind: api.Head, Name: "", Version: ""}, names.ErrName},
		{api.Key{Kind: api.Archive, Name: "x", Version: ""}, names.ErrVersion},
	} {
		if err := Check(c.key); !errors.Is(err, c.reason) {
			t.Errorf("Check(%v) = %v, want %v", c.key, err, c.reason)
		}
	}
	for _, kind := range []int{api.Head, api.Archive} {
		if err := Check(api.Key{Kind: kind, Name: "x", Version: "v1.0.0"}); err != nil {
			t.Errorf("Check of kind %d = %v", kind, err)
		}
	}
}

func TestPathsAndTails(t *testing.T) {
	for _, c := range []struct {
		key        api.Key
		path, tail string
	}{
		{api.Key{Kind: api.Head, Name: "x", Version: "v1.0.0"}, "/x/@v/v1.0.0.head", "x@v1.0.0.head"},
		{api.Key{Kind: api.Archive, Name: "x", Version: "v1.0.0"}, "/x/@v/v1.0.0.zip", "x@v1.0.0.zip"},
		{api.Key{Kind: api.Archive, Name: "a.b/C-D_e", Version: "v1.0.0-Rc.1"}, "/a.b/!c-!d_e/@v/v1.0.0-!rc.1.zip", "a.b/!c-!d_e@v1.0.0-!rc.1.zip"},
	} {
		if path, tail := Path(c.key), Tail(c.key); path != c.path || tail != c.tail {
			t.Errorf("%v: %q, %q, want %q, %q", c.key, path, tail, c.path, c.tail)
		}
	}
}

func TestPathsOfTexts(t *testing.T) {
	for _, c := range []struct{ got, want string }{
		{InfoPath("a.b/C-D_e", "v1.0.0-Rc.1"), "/a.b/!c-!d_e/@v/v1.0.0-!rc.1.info"},
		{ListPath("a.b/C-D_e"), "/a.b/!c-!d_e/@v/list"},
		{LatestPath("a.b/C-D_e"), "/a.b/!c-!d_e/@latest"},
	} {
		if c.got != c.want {
			t.Errorf("%q, want %q", c.got, c.want)
		}
	}
}
