package satchel_test

import (
	"fmt"
	"math/rand"
	"strconv"
	"strings"
	"testing"

	"satchel/api"
	"satchel/satchel"
)

// rising are versions, each less than all behind it.
var rising = []string{
	"v0.0.0-0", "v0.0.0-a", "v0.0.0", "v0.0.1", "v0.0.2", "v0.0.10", "v0.0.999999999", "v0.1.0", "v0.2.0-z", "v0.2.0", "v0.10.0", "v0.999999999.0",
	"v1.0.0-0", "v1.0.0-0.0", "v1.0.0-0.a", "v1.0.0-1", "v1.0.0-2", "v1.0.0-10", "v1.0.0-10.0", "v1.0.0-999999999",
	"v1.0.0--", "v1.0.0--.0", "v1.0.0--.-", "v1.0.0---", "v1.0.0--1", "v1.0.0-00a", "v1.0.0-0a", "v1.0.0-1000000000a", "v1.0.0-10a", "v1.0.0-1a", "v1.0.0-2a",
	"v1.0.0-A", "v1.0.0-A.z", "v1.0.0-B", "v1.0.0-a", "v1.0.0-a.0", "v1.0.0-a.1", "v1.0.0-a.1.0", "v1.0.0-a.1.a", "v1.0.0-a.9", "v1.0.0-a.10", "v1.0.0-a.-", "v1.0.0-a.a", "v1.0.0-a-", "v1.0.0-a1", "v1.0.0-aB", "v1.0.0-aa", "v1.0.0-ab", "v1.0.0-b",
	"v1.0.0-rc", "v1.0.0-rc.2", "v1.0.0-rc.10", "v1.0.0-rc.a.b", "v1.0.0",
	"v1.0.1-0", "v1.0.1", "v1.2.3", "v1.10.0", "v2.0.0-0", "v2.0.0", "v9.0.0", "v10.0.0", "v999999999.0.0",
}

// sortKey is a text whose order, byte by byte, is the order of versions:
// a second way to that order, to hold the first against.
func sortKey(version string) string {
	numbers, marks, marked := strings.Cut(version[1:], "-")
	var key strings.Builder
	for _, n := range strings.Split(numbers, ".") {
		fmt.Fprintf(&key, "%09s", n)
	}
	if !marked {
		return key.String() + "\xff"
	}
	for _, m := range strings.Split(marks, ".") {
		if n, err := strconv.ParseUint(m, 10, 64); err == nil {
			fmt.Fprintf(&key, "\x01\x01%09d", n)
		} else {
			key.WriteString("\x01\x02" + m)
		}
	}
	return key.String() + "\x00"
}

func checkOrder(t *testing.T, a string, b string, want int) {
	t.Helper()
	if c, e := satchel.Compare(a, b); c != want || e != api.OK {
		t.Errorf("P3: Compare(%q, %q) = %d, %d, want %d", a, b, c, e, want)
	}
}

func TestCompareRising(t *testing.T) {
	for i, a := range rising {
		checkOrder(t, a, a, 0)
		for _, b := range rising[i+1:] {
			checkOrder(t, a, b, -1)
			checkOrder(t, b, a, 1)
		}
	}
}

func TestCompareAnyVersions(t *testing.T) {
	source := rand.New(rand.NewSource(1))
	pick := func(texts ...string) string { return texts[source.Intn(len(texts))] }
	draw := func() string {
		number := func() string { return pick("0", "1", "2", "9", "10", "11", "100", "999") }
		s := "v" + pick("0", "1", "10") + "." + number() + "." + number()
		between := "-"
		for range source.Intn(5) {
			s += between + pick("0", "1", "2", "10", "123456789", "a", "b", "A", "aa", "a-", "-", "1a", "01a", "rc")
			between = "."
		}
		return s
	}
	for range 200000 {
		a, b := draw(), draw()
		if source.Intn(2) == 0 {
			// The same numbers, so that the marks decide.
			numbers, _, _ := strings.Cut(a, "-")
			_, marks, marked := strings.Cut(b, "-")
			if b = numbers; marked {
				b += "-" + marks
			}
		}
		if satchel.CheckVersion(a) == api.OK && satchel.CheckVersion(b) == api.OK {
			checkOrder(t, a, b, strings.Compare(sortKey(a), sortKey(b)))
		}
	}
}

func TestCompareRefuses(t *testing.T) {
	for _, bad := range []string{"", "v", "1.0.0", "v1.0", "v01.0.0", "v1.0.0-", "v1.0.0-01", "v1.0.0-a_b", "v1000000000.0.0", "v1.0.0-1000000000", "v2.0.0-" + strings.Repeat("a", 24), "\xff"} {
		for _, pair := range [][2]string{{bad, "v1.0.0"}, {"v1.0.0", bad}, {bad, bad}, {bad, ""}} {
			if c, e := satchel.Compare(pair[0], pair[1]); c != 0 || e != api.ErrVersion {
				t.Errorf("P1, P3: Compare(%q, %q) = %d, %d, want 0, ErrVersion", pair[0], pair[1], c, e)
			}
		}
	}
}
