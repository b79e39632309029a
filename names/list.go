package names

import (
	"slices"
	"strings"
)

// listed is a version, and the text that it was read from.
type listed struct {
	text    string
	version version
}

// List tells which lines are versions, each once, the least first.
func List(text string) []string {
	var found []listed
	for _, line := range strings.Split(text, "\n") {
		v, err := parse(line)
		if err == nil {
			found = append(found, listed{text: line, version: v})
		}
	}
	slices.SortFunc(found, compareListed)
	// Two texts of one order are one text, so those that are the same stand together.
	found = slices.CompactFunc(found, sameText)
	var texts []string
	for _, l := range found {
		// A line is a piece of the text that was handed in.
		texts = append(texts, strings.Clone(l.text))
	}
	return texts
}

// Latest tells, of versions by their order, the last one without marks, or else the last; empty, if there is none.
func Latest(rising []string) string {
	latest := ""
	for _, v := range rising {
		if latest == "" || hasMarks(latest) || !hasMarks(v) {
			latest = v
		}
	}
	return latest
}

// hasMarks is asked of versions only: in these no number has a "-".
func hasMarks(version string) bool { return strings.Contains(version, "-") }

func compareListed(a listed, b listed) int { return compareVersions(a.version, b.version) }

func sameText(a listed, b listed) bool { return a.text == b.text }
