package satchel_test

import (
	"errors"
	"fmt"
	"math/rand"
	"slices"
	"strings"
	"testing"

	"satchel/api"
	"satchel/satchel"
)

// Here is a disk that can crash. A body of bytes has a number; names are of bodies.
// What is done to names since the last SyncDir is pending, and comes to the disk in order.

type crashDisk struct {
	safeNames map[string]int
	names     map[string]int
	pending   []func(names map[string]int)
	bytes     []string
	safe      []bool
}

func newCrashDisk(files []api.File) *crashDisk {
	d := &crashDisk{safeNames: map[string]int{}, names: map[string]int{}}
	for _, f := range files {
		d.names[f.Name] = len(d.bytes)
		d.safeNames[f.Name] = len(d.bytes)
		d.bytes = append(d.bytes, f.Data)
		d.safe = append(d.safe, true)
	}
	return d
}

func (d *crashDisk) change(change func(names map[string]int)) {
	d.pending = append(d.pending, change)
	change(d.names)
}

// do does a step, or says why it cannot be done.
func (d *crashDisk) do(s api.Step) error {
	body, there := d.names[s.Name]
	if !there && s.What != api.Write && s.What != api.SyncDir {
		return fmt.Errorf("no file %q for the step %+v", s.Name, s)
	}
	switch s.What {
	case api.Write:
		if !there {
			body = len(d.bytes)
			d.bytes = append(d.bytes, "")
			d.safe = append(d.safe, false)
			d.change(func(names map[string]int) { names[s.Name] = body })
		}
		d.bytes[body], d.safe[body] = s.Data, false
	case api.Sync:
		d.safe[body] = true
	case api.Rename:
		d.change(func(names map[string]int) {
			names[s.To] = body
			delete(names, s.Name)
		})
	case api.Remove:
		d.change(func(names map[string]int) { delete(names, s.Name) })
	case api.SyncDir:
		for _, change := range d.pending {
			change(d.safeNames)
		}
		d.pending = nil
	default:
		return fmt.Errorf("no step: %+v", s)
	}
	return nil
}

func copied(names map[string]int) map[string]int {
	c := map[string]int{}
	for name, body := range names {
		c[name] = body
	}
	return c
}

// eachCrash calls f with the files that may be left, if there is a crash now.
// Of all bytes that are not safe there are as many first ones as one of a few shares says.
func (d *crashDisk) eachCrash(f func(files []api.File)) {
	for came := range len(d.pending) + 1 {
		names := copied(d.safeNames)
		for _, change := range d.pending[:came] {
			change(names)
		}
		for _, share := range []int{0, 1, 50, 99, 100} {
			var files []api.File
			for name, body := range names {
				data := d.bytes[body]
				if !d.safe[body] {
					data = data[:len(data)*share/100]
				}
				files = append(files, api.File{Name: name, Data: data})
			}
			f(files)
		}
	}
}

// A life is a client, its disk, and what has been fetched with OK.
type life struct {
	config  api.Config
	disk    *crashDisk
	client  *satchel.Client
	fetched map[api.Key]int
}

func newLife(t *testing.T, config api.Config, files []api.File) *life {
	t.Helper()
	l := &life{config: config, disk: newCrashDisk(files), fetched: map[api.Key]int{}}
	before := newClient(t, config, files...)
	x, steps, e := satchel.New(config, files)
	if e != api.OK {
		t.Fatalf("P8: New = %d", e)
	}
	l.client = x
	if err := l.through(steps, l.answers(before), l.answers(x)); err != nil {
		t.Fatalf("P14: recovery: %v", err)
	}
	return l
}

// answers are what Lookup says of all keys.
func (l *life) answers(x *satchel.Client) []string {
	var answers []string
	for _, k := range someKeys {
		data, e := x.Lookup(k)
		answers = append(answers, fmt.Sprintf("%d %q", e, data))
	}
	return answers
}

// through does a call's steps, and crashes ahead of them and behind each.
func (l *life) through(steps []api.Step, before []string, behind []string) error {
	problems := l.afterCrash(before, behind)
	for _, s := range steps {
		if err := l.disk.do(s); err != nil {
			return err
		}
		problems = append(problems, l.afterCrash(before, behind)...)
	}
	return errors.Join(problems...)
}

func (l *life) afterCrash(before []string, behind []string) (problems []error) {
	l.disk.eachCrash(func(files []api.File) {
		x, _, e := satchel.New(l.config, files)
		if e != api.OK {
			problems = append(problems, fmt.Errorf("New(.., %q) = %d", files, e))
			return
		}
		for i, answer := range l.answers(x) {
			k := someKeys[i]
			if answer != before[i] && answer != behind[i] {
				problems = append(problems, fmt.Errorf("Lookup(%v) = %s, want %s or %s, with %q", k, answer, before[i], behind[i], files))
			}
			if l.fetched[k] > 0 && !strings.HasPrefix(answer, "0 ") {
				problems = append(problems, fmt.Errorf("%v is lost: %s, with %q", k, answer, files))
			}
		}
	})
	return problems
}

func (l *life) fetch(t *testing.T, k api.Key, w api.World) {
	t.Helper()
	before := l.answers(l.client)
	o := l.client.Fetch(k, w)
	if err := l.through(o.Steps, before, l.answers(l.client)); err != nil {
		t.Fatalf("P14: Fetch(%v), steps %s: %v", k, show(o.Steps), err)
	}
	if o.Err == api.OK {
		l.fetched[k]++
	}
}

func (l *life) fetchAll(t *testing.T, keys []api.Key, worlds []api.World) {
	t.Helper()
	before := l.answers(l.client)
	outcomes, _ := l.client.FetchAll(keys, worlds)
	var steps []api.Step
	for _, o := range outcomes {
		steps = append(steps, o.Steps...)
	}
	if err := l.through(steps, before, l.answers(l.client)); err != nil {
		t.Fatalf("P14: FetchAll(%v), steps %s: %v", keys, show(steps), err)
	}
	for i, o := range outcomes {
		if o.Err == api.OK {
			l.fetched[keys[i]]++
		}
	}
}

func TestCrashes(t *testing.T) {
	zip := contentOf(zipKey)
	n := len(zip)
	for _, files := range [][]api.File{
		nil,
		{cacheFile(zipKey, "wrong"), cacheFile(headKey, "")},
		{{Name: "t/" + tailOf(zipKey), Data: "old"}, {Name: "t/x"}, leftFile(zipKey, "a q\n"+zip[:20]), leftFile(headKey, "x")},
		{cacheFile(headKey, contentOf(headKey)), cacheFile(zipKey, zip[1:]), {Name: "t/" + tailOf(headKey), Data: "old"}},
	} {
		l := newLife(t, configOf(t, "a", 3), files)
		l.fetch(t, zipKey, world(cutDial("q", zip, 40)))
		l.fetch(t, headKey, world(wholeDial(contentOf(headKey))))
		l.fetch(t, otherZip, world(wholeDial("wrong")))
		l.fetch(t, zipKey, world(partDial("q", zip, 40, 60, 60), partDial("q", zip, 60, n, n)))
		l.fetchAll(t, []api.Key{otherZip, otherKey, otherZip, headKey}, []api.World{world(cutDial("q", contentOf(otherZip), 40)), world(wholeDial(contentOf(otherKey))), world(wholeDial(contentOf(otherZip))), {}})
		if len(l.fetched) != 4 {
			t.Errorf("P14: only %v were fetched", l.fetched)
		}
	}
}

func TestCrashesByChance(t *testing.T) {
	c := chance{rand.New(rand.NewSource(14))}
	table := configOf(t, "a", 1).Sums
	for range 250 {
		config := c.config(table)
		config.Limit = 1000
		l := newLife(t, config, c.files())
		for range 3 {
			k := c.key()
			l.fetch(t, k, c.world(k))
		}
		keys := []api.Key{c.key(), c.key(), c.key()}
		l.fetchAll(t, keys, []api.World{c.world(keys[0]), c.world(keys[1]), c.world(keys[2])})
	}
}

// Steps that are not safe must be found out, else the tests above say nothing.
func TestTheCrashDiskFindsOut(t *testing.T) {
	old := []api.File{cacheFile(zipKey, "wrong")}
	right := installSteps(zipKey, contentOf(zipKey))
	config := configOf(t, "a", 1)
	for _, c := range []struct {
		what  string
		steps []api.Step
		found bool
	}{
		{"the right steps", right, false},
		{"no Sync", slices.Delete(slices.Clone(right), 1, 2), true},
		{"no SyncDir", right[:3], true},
		{"a file that is not there", right[1:], true},
	} {
		l := newLife(t, config, old)
		before, behind := l.answers(l.client), l.answers(newClient(t, config, cacheFile(zipKey, contentOf(zipKey))))
		err := l.through(c.steps, before, behind)
		l.fetched[zipKey]++
		err = errors.Join(err, l.through(nil, before, behind))
		if (err != nil) != c.found {
			t.Errorf("%s: %v", c.what, err)
		}
	}
}
