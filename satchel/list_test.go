package satchel_test

import (
	"math/rand"
	"slices"
	"sort"
	"strings"
	"testing"

	"satchel/satchel"
)

// slowList is List by a pattern, and by the other way to the order of versions.
func slowList(text string) []string {
	seen := map[string]bool{}
	var versions []string
	for _, line := range strings.Split(text, "\n") {
		if wantedOfVersion(line) == 0 && !seen[line] {
			seen[line] = true
			versions = append(versions, line)
		}
	}
	sort.Slice(versions, func(i int, k int) bool { return sortKey(versions[i]) < sortKey(versions[k]) })
	return versions
}

func checkList(t *testing.T, text string, want ...string) {
	t.Helper()
	if got := satchel.List(text); !slices.Equal(got, want) {
		t.Errorf("P7: List(%.200q) = %.200q, want %.200q", text, got, want)
	}
}

func TestList(t *testing.T) {
	checkList(t, "v1.10.0\nx\nv1.2.0\nv1.10.0", "v1.2.0", "v1.10.0")
	checkList(t, "")
	checkList(t, "\n")
	checkList(t, "\n\n\n")
	checkList(t, "x")
	checkList(t, "x\ny\n")
	checkList(t, "v1.0.0", "v1.0.0")
	checkList(t, "v1.0.0\n", "v1.0.0")
	checkList(t, "\nv1.0.0", "v1.0.0")
	checkList(t, "\n\nv1.0.0\n\n", "v1.0.0")
	checkList(t, "v1.0.0\nv1.0.0\nv1.0.0\n", "v1.0.0")
	checkList(t, "v1.0.0 v2.0.0\nv1.0.0,v2.0.0\nv1.0.0v2.0.0")
	checkList(t, "v1.0.0\r\nv2.0.0\r\n")
	checkList(t, "v1.0.0\rv2.0.0")
	checkList(t, " v1.0.0\nv1.0.0 \n\tv1.0.0\nv1.0.0\x00\n\x00v1.0.0\nv1.0.0-\n1.0.0\nv1.0\nv01.0.0")
	checkList(t, "v2.0.0\nv1.0.0\n", "v1.0.0", "v2.0.0")
	checkList(t, "v1.0.0\nv1.0.0-rc\nv1.0.0-rc.10\nv1.0.0-rc.2\nv1.0.0-2\nv0.9.9", "v0.9.9", "v1.0.0-2", "v1.0.0-rc", "v1.0.0-rc.2", "v1.0.0-rc.10", "v1.0.0")
	checkList(t, "v1.0.0-A\nv1.0.0-a\nv1.0.0-A", "v1.0.0-A", "v1.0.0-a")
}

func TestListRising(t *testing.T) {
	source := rand.New(rand.NewSource(5))
	for range 300 {
		lines := append(slices.Clone(rising), rising...)
		lines = append(lines, "", "x", "v1", "v1.0.0 ", "v1.0.0\r", "v1.0.0-01")
		source.Shuffle(len(lines), func(i int, k int) { lines[i], lines[k] = lines[k], lines[i] })
		checkList(t, strings.Join(lines, "\n"), rising...)
		few := lines[:source.Intn(len(lines))]
		checkList(t, strings.Join(few, "\n")+"\n", slowList(strings.Join(few, "\n"))...)
	}
}

func TestListEveryByte(t *testing.T) {
	s := "v1.0.0-b.2\nv0.1.0\nv1.0.0-b.10\nv1.0.0\nv0.1.0\n"
	for at := range len(s) {
		checkList(t, s[:at], slowList(s[:at])...)
		checkList(t, s[at:], slowList(s[at:])...)
		for c := range 256 {
			b := string([]byte{byte(c)})
			for _, text := range []string{s[:at] + b + s[at+1:], s[:at] + b + s[at:]} {
				checkList(t, text, slowList(text)...)
			}
		}
	}
}

func TestListLongTexts(t *testing.T) {
	for _, s := range longTexts() {
		checkList(t, s)
		checkList(t, s+"\nv1.0.0\n"+s, "v1.0.0")
	}
	const many = 200000
	checkList(t, strings.Repeat("\n", many))
	checkList(t, strings.Repeat("v1.0.0\n", many), "v1.0.0")
	checkList(t, strings.Repeat("v1.0.0-b\nv1.0.0-a\n\n", many), "v1.0.0-a", "v1.0.0-b")
	var falling strings.Builder
	for i := range many {
		falling.WriteString("v1." + string(number9(many-i)) + ".0\n")
	}
	if got := satchel.List(falling.String()); len(got) != many || got[0] != "v1.100000001.0" || !slices.IsSorted(got) {
		t.Errorf("P7: List of %d versions: %d", many, len(got))
	}
}

// number9 is n in nine digits, so that the order of texts is that of numbers.
func number9(n int) []byte {
	digits := []byte("100000000")
	for at := 8; n > 0; at, n = at-1, n/10 {
		digits[at] = byte('0' + n%10)
	}
	return digits
}

func TestListAnswersNewMemory(t *testing.T) {
	s := strings.Join(rising, "\n")
	list, again := satchel.List(s), satchel.List(s)
	for i, v := range list {
		if shares(s, v) || shares(again[i], v) {
			t.Errorf("P2: %q shares memory", v)
		}
	}
	clear(list[:cap(list)])
	if !slices.Equal(again, rising) || !slices.Equal(satchel.List(s), rising) {
		t.Error("P2: what was done to an answer is to be seen in another")
	}
}
