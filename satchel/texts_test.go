package satchel_test

import (
	"strings"
	"unsafe"
)

// eachText calls f with every text of 0 to most bytes of the alphabet.
func eachText(alphabet string, most int, f func(string)) {
	var grow func(text string)
	grow = func(text string) {
		f(text)
		if len(text) == most {
			return
		}
		for i := range len(alphabet) {
			grow(text + alphabet[i:i+1])
		}
	}
	grow("")
}

// longTexts are far longer than any limit; some would be right but for their length.
func longTexts() []string {
	const many = 3000000
	return []string{
		strings.Repeat("a", many),
		strings.Repeat("A", many),
		strings.Repeat("/", many),
		strings.Repeat(".", many),
		strings.Repeat("!", many),
		strings.Repeat("\x00", many),
		strings.Repeat("\xff", many),
		strings.Repeat("a/", many) + "a",
		strings.Repeat("!a", many),
		strings.Repeat("A", many) + "!",
		strings.Repeat("a", many) + "!",
		"v" + strings.Repeat("1", many) + ".0.0",
		"v" + strings.Repeat("1.", many) + "0",
		"v1.0.0" + strings.Repeat("-", many),
		"v1.0.0-" + strings.Repeat("1", many),
		"v1.0.0-" + strings.Repeat("a.", many) + "a",
	}
}

// shares tells whether b lies within a's memory.
func shares(a string, b string) bool {
	from, at := uintptr(unsafe.Pointer(unsafe.StringData(a))), uintptr(unsafe.Pointer(unsafe.StringData(b)))
	return b != "" && at >= from && at < from+uintptr(len(a))
}
