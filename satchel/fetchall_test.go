package satchel_test

import (
	"math/rand"
	"slices"
	"strings"
	"testing"

	"satchel/api"
	"satchel/satchel"
)

// checkAll holds FetchAll against a slow client that fetches one key after the other.
func checkAll(t *testing.T, x *satchel.Client, slow *slowClient, keys []api.Key, worlds []api.World) {
	t.Helper()
	before := show(keys) + show(worlds)
	outcomes, e := x.FetchAll(keys, worlds)
	if e != api.OK || len(outcomes) != len(keys) {
		t.Fatalf("P11: FetchAll(%v) = %d outcomes, %d", keys, len(outcomes), e)
	}
	for i, k := range keys {
		if want := slow.fetch(k, worlds[i]); !same(outcomes[i], want) {
			t.Fatalf("P11: FetchAll(%v), outcome %d:\n got %s,\nwant %s", keys, i, show(outcomes[i]), show(want))
		}
	}
	for _, k := range someKeys {
		data, e := slow.lookup(k)
		checkLookup(t, "behind FetchAll", x, k, data, e)
	}
	if show(keys)+show(worlds) != before {
		t.Error("P2: FetchAll changed what was handed in")
	}
}

func TestFetchAllByChance(t *testing.T) {
	c := chance{rand.New(rand.NewSource(11))}
	table := configOf(t, "a", 1).Sums
	for range 1500 {
		config, files := c.config(table), c.files()
		x, slow := newClient(t, config, files...), newSlowClient(config, files)
		for range 2 {
			var keys []api.Key
			var worlds []api.World
			for range c.Intn(9) {
				keys = append(keys, c.key())
				worlds = append(worlds, c.world(keys[len(keys)-1]))
			}
			checkAll(t, x, slow, keys, worlds)
		}
	}
}

func TestFetchAllOfOneKey(t *testing.T) {
	zip := contentOf(zipKey)
	n := len(zip)
	config := configOf(t, "a", 1)
	keys := slices.Repeat([]api.Key{zipKey}, 8)
	worlds := []api.World{
		world(goneDial), world(cutDial("q", zip, 20)), world(partDial("q", zip, 20, 40, 40)), world(busyDial),
		world(partDial("q", zip, 40, n, n)), world(goneDial), {}, world(wholeDial("x")),
	}
	x, slow := newClient(t, config), newSlowClient(config, nil)
	checkAll(t, x, slow, keys, worlds)
	checkLookup(t, "one key, eight times", x, zipKey, zip, api.OK)
}

func TestFetchAllInTurn(t *testing.T) {
	config := configOf(t, "a", 1)
	x, slow := newClient(t, config), newSlowClient(config, nil)
	keys := []api.Key{headKey, zipKey, headKey, noSumKey, {}, zipKey, otherKey, headKey}
	worlds := []api.World{
		world(goneDial), world(wholeDial("x")), world(wholeDial(contentOf(headKey))), world(wholeDial("x")), {}, world(wholeDial(contentOf(zipKey))), world(wholeDial(contentOf(otherKey))), world(goneDial),
	}
	checkAll(t, x, slow, keys, worlds)
	for _, k := range []api.Key{headKey, zipKey, otherKey} {
		checkLookup(t, "in turn", x, k, contentOf(k), api.OK)
	}
}

func TestFetchAllRefuses(t *testing.T) {
	x := newClient(t, configOf(t, "a", 1))
	good := world(wholeDial(contentOf(headKey)))
	for _, c := range []struct{ keys, worlds int }{{0, 1}, {1, 0}, {1, 2}, {2, 1}, {8, 7}, {7, 8}, {8, 9}, {9, 8}, {9, 9}, {10, 10}, {100000, 100000}, {1, 100000}} {
		outcomes, e := x.FetchAll(slices.Repeat([]api.Key{headKey}, c.keys), slices.Repeat([]api.World{good}, c.worlds))
		if outcomes != nil || e != api.ErrArg {
			t.Errorf("P11: FetchAll of %d keys, %d worlds: %d outcomes, %d, want ErrArg", c.keys, c.worlds, len(outcomes), e)
		}
		checkLookup(t, "P1: behind FetchAll that refuses", x, headKey, "", api.ErrNone)
	}
	for _, none := range [][]api.Key{nil, {}} {
		if outcomes, e := x.FetchAll(none, nil); len(outcomes) != 0 || e != api.OK {
			t.Errorf("P11: FetchAll of nothing: %v, %d", outcomes, e)
		}
	}
	if outcomes, e := x.FetchAll(slices.Repeat([]api.Key{headKey}, 8), slices.Repeat([]api.World{good}, 8)); len(outcomes) != 8 || e != api.OK {
		t.Errorf("P11: FetchAll of eight: %d outcomes, %d", len(outcomes), e)
	}
}

func TestFetchAllOfNoKeys(t *testing.T) {
	x := newClient(t, configOf(t, "a", 1))
	for _, c := range noKeys {
		keys := []api.Key{c.key, headKey, c.key}
		outcomes, e := x.FetchAll(keys, make([]api.World, 3))
		if e != api.OK || len(outcomes) != 3 || !same(outcomes[0], api.Outcome{Err: c.want}) || !same(outcomes[2], api.Outcome{Err: c.want}) || outcomes[1].Err != api.ErrFailed {
			t.Errorf("P11: FetchAll(%v) = %s, %d", keys, show(outcomes), e)
		}
	}
	for _, text := range longTexts() {
		long := api.Key{Kind: api.Head, Name: text, Version: text}
		outcomes, e := x.FetchAll([]api.Key{long, long}, make([]api.World, 2))
		if e != api.OK || len(outcomes) != 2 || outcomes[0].Err != api.ErrName || outcomes[1].Err != api.ErrName {
			t.Errorf("P1, P11: FetchAll of long names: %s, %d", show(outcomes), e)
		}
	}
}

func TestFetchAllAnswersNewMemory(t *testing.T) {
	config := configOf(t, "aa|bb", 2)
	x, y := newClient(t, config), newClient(t, config)
	keys := []api.Key{zipKey, headKey, zipKey, headKey}
	worlds := []api.World{world(brokenDial, cutDial("tag", contentOf(zipKey), 9)), world(wholeDial(contentOf(headKey))), {}, {}}
	outcomes, _ := x.FetchAll(keys, worlds)
	kept, _ := y.FetchAll(keys, worlds)
	for i := range outcomes {
		spoilAll(outcomes[i])
		// No outcome shares memory with another one.
		for k := i + 1; k < len(outcomes); k++ {
			if !same(outcomes[k], kept[k]) {
				t.Errorf("P2: outcome %d shares memory with outcome %d", k, i)
			}
		}
	}
	clear(outcomes[:cap(outcomes)])
	checkLookup(t, "P2: outcomes that were spoilt", x, headKey, contentOf(headKey), api.OK)
	if o := x.Fetch(zipKey, world(brokenDial)); len(o.Sent) < 2 || o.Sent[1].Request != restRequest(zipKey, "bb", 9, "tag") || strings.Contains(show(o), "\x00") {
		t.Errorf("P2: behind outcomes that were spoilt: %s", show(o))
	}
}
