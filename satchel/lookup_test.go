package satchel_test

import (
	"slices"
	"strings"
	"testing"

	"satchel/api"
	"satchel/satchel"
)

func TestLookup(t *testing.T) {
	for _, k := range someKeys {
		right := contentOf(k)
		for _, c := range []struct {
			what  string
			files []api.File
			found bool
		}{
			{"no file", nil, false},
			{"the file", []api.File{cacheFile(k, right)}, true},
			{"a byte more", []api.File{cacheFile(k, right+"x")}, false},
			{"a byte less", []api.File{cacheFile(k, right[1:])}, false},
			{"an empty file", []api.File{cacheFile(k, "")}, false},
			{"on the way", []api.File{{Name: "t/" + tailOf(k), Data: right}}, false},
			{"a leftover", []api.File{leftFile(k, right)}, false},
			{"without a folder", []api.File{{Name: tailOf(k), Data: right}}, false},
			{"not escaped", []api.File{{Name: "c/" + k.Name + "@" + k.Version + tailOf(k)[strings.LastIndex(tailOf(k), "."):], Data: right}}, false},
			{"among others", []api.File{{Name: "t/" + tailOf(k)}, {Name: "z"}, cacheFile(k, right), {Name: ""}, leftFile(k, "x")}, true},
		} {
			x := newClient(t, configOf(t, "a", 1), c.files...)
			want, wantErr := "", api.ErrNone
			if c.found {
				want, wantErr = right, api.OK
			}
			checkLookup(t, c.what, x, k, want, wantErr)
			for _, other := range someKeys {
				if other != k {
					checkLookup(t, c.what, x, other, "", api.ErrNone)
				}
			}
		}
	}
}

func TestLookupOfEveryByteTurned(t *testing.T) {
	for _, k := range []api.Key{headKey, zipKey} {
		right := contentOf(k)
		for at := range len(right) {
			turned := right[:at] + string([]byte{right[at] ^ 1}) + right[at+1:]
			s, e := newClient(t, configOf(t, "a", 1), cacheFile(k, turned)).Lookup(k)
			// Bytes of an archive that may be any are in no sum.
			sum, fault := satchel.Sum(k.Kind, turned, k.Name, k.Version)
			if isRight := fault == api.OK && sum == sumOf(t, k); isRight != (e == api.OK) || isRight && s != turned || !isRight && (s != "" || e != api.ErrNone) {
				t.Errorf("P9, P13: Lookup of %v with byte %d turned = %q, %d", k, at, s, e)
			}
		}
	}
}

func TestLookupRefuses(t *testing.T) {
	x := newClient(t, configOf(t, "a", 1), cacheFile(headKey, contentOf(headKey)))
	for _, c := range noKeys {
		checkLookup(t, "no key", x, c.key, "", c.want)
	}
	for _, text := range longTexts() {
		checkLookup(t, "a long name", x, api.Key{Kind: api.Head, Name: text, Version: someVersion}, "", api.ErrName)
		checkLookup(t, "a long version", x, api.Key{Kind: api.Head, Name: someName, Version: text}, "", api.ErrVersion)
	}
	empty := newClient(t, api.Config{Mirrors: "a", Tries: 1}, cacheFile(headKey, contentOf(headKey)))
	checkLookup(t, "an empty table", empty, headKey, "", api.ErrNoSum)
}

func TestLookupOfOneLineOnly(t *testing.T) {
	for _, k := range []api.Key{headKey, zipKey} {
		other := headKey
		if k == headKey {
			other = zipKey
		}
		c := api.Config{Mirrors: "a", Sums: lineOf(k, sumOf(t, k)), Tries: 1}
		x := newClient(t, c, cacheFile(k, contentOf(k)), cacheFile(other, contentOf(other)))
		checkLookup(t, "its line", x, k, contentOf(k), api.OK)
		checkLookup(t, "the other's line", x, other, "", api.ErrNoSum)
	}
}

func TestLookupOfEmptyHead(t *testing.T) {
	sum, _ := satchel.Sum(api.Head, "", headKey.Name, headKey.Version)
	c := api.Config{Mirrors: "a", Sums: lineOf(headKey, sum), Tries: 1, Deadline: 1}
	checkLookup(t, "an empty head", newClient(t, c, cacheFile(headKey, "")), headKey, "", api.OK)
	checkLookup(t, "no file", newClient(t, c), headKey, "", api.ErrNone)
	x := newClient(t, c)
	checkOutcome(t, "an empty head", x.Fetch(headKey, world(wholeDial(""))), api.Outcome{
		Sent: []api.Sent{{Mirror: "a", Request: plainRequest(headKey, "a")}}, Steps: installSteps(headKey, ""), Ticks: 1,
	})
	checkLookup(t, "an empty head that was fetched", x, headKey, "", api.OK)
}

func TestLookupOfLongFiles(t *testing.T) {
	for _, text := range longTexts() {
		x := newClient(t, configOf(t, "a", 1), cacheFile(headKey, text), cacheFile(zipKey, text), leftFile(zipKey, text))
		checkLookup(t, "a long file", x, headKey, "", api.ErrNone)
		checkLookup(t, "a long file", x, zipKey, "", api.ErrNone)
		if o := x.Fetch(zipKey, world(wholeDial(contentOf(zipKey)))); o.Err != api.OK || len(o.Steps) != 5 || o.Sent[0].Request != plainRequest(zipKey, "a") {
			t.Errorf("P1, P10: behind a long leftover of %.20q: %s", text, show(o))
		}
	}
	sum, _ := satchel.Sum(api.Head, longTexts()[0], headKey.Name, headKey.Version)
	c := api.Config{Mirrors: "a", Sums: lineOf(headKey, sum), Tries: 1}
	checkLookup(t, "a long head", newClient(t, c, cacheFile(headKey, longTexts()[0])), headKey, longTexts()[0], api.OK)
}

func TestClientsOfTheLongestKeys(t *testing.T) {
	k := api.Key{Kind: api.Head, Name: strings.Repeat("N", 60), Version: "v1.0.0-" + strings.Repeat("M", 23)}
	tail := strings.Repeat("!n", 60) + "@v1.0.0-" + strings.Repeat("!m", 23) + ".head"
	sum, _ := satchel.Sum(k.Kind, "abc", k.Name, k.Version)
	x := newClient(t, api.Config{Mirrors: "a", Sums: lineOf(k, sum), Tries: 1, Deadline: 1, Limit: 3}, api.File{Name: "p/" + tail})
	o := x.Fetch(k, world(wholeDial("abc")))
	wanted := []api.Step{{What: 1, Name: "t/" + tail, Data: "abc"}, {What: 2, Name: "t/" + tail}, {What: 3, Name: "t/" + tail, To: "c/" + tail}, {What: 4}, {What: 5, Name: "p/" + tail}}
	path := "/" + strings.Repeat("!n", 60) + "/@v/v1.0.0-" + strings.Repeat("!m", 23) + ".head"
	if o.Err != api.OK || !slices.Equal(o.Steps, wanted) || o.Sent[0].Request != "GET "+path+" HTTP/1.1\r\nHost: a\r\n\r\n" {
		t.Errorf("P10: Fetch of the longest key: %s", show(o))
	}
	checkLookup(t, "the longest key", x, k, "abc", api.OK)
}
