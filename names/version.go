package names

import (
	"cmp"
	"slices"
	"strings"

	"satchel/api"
	"satchel/fault"
)

const maxDigits = 9

// version is a version taken apart.
type version struct {
	numbers [3]int
	marks   []mark
}

// mark is a number, if it is digits alone; its value counts only then.
type mark struct {
	text     string
	isNumber bool
	value    int
}

// CheckVersion tells why the text is no version, or nil.
func CheckVersion(text string) error {
	_, err := parse(text)
	return err
}

// Compare tells -1, 0 or 1, as a is less than b, the same, greater.
func Compare(a string, b string) (int, error) {
	v, err := parse(a)
	if err != nil {
		return 0, err
	}
	w, err := parse(b)
	if err != nil {
		return 0, err
	}
	return compareVersions(v, w), nil
}

func parse(text string) (version, error) {
	v, err := parseParts(text)
	if err != nil {
		return version{}, fault.Of(ErrVersion, err)
	}
	return v, nil
}

func parseParts(text string) (version, error) {
	// Ahead of splitting: a very long text is not worth taking apart.
	if len(text) > api.MaxVersion {
		return version{}, errLong
	}
	rest, found := strings.CutPrefix(text, "v")
	if !found {
		return version{}, errShape
	}
	// No number has a "-", so the first one is what the marks stand behind.
	core, tail, marked := strings.Cut(rest, "-")
	numbers, err := parseNumbers(core)
	if err != nil {
		return version{}, err
	}
	if !marked {
		return version{numbers: numbers}, nil
	}
	marks, err := parseMarks(tail)
	if err != nil {
		return version{}, err
	}
	return version{numbers: numbers, marks: marks}, nil
}

func parseNumbers(core string) ([3]int, error) {
	var numbers [3]int
	parts := strings.Split(core, ".")
	if len(parts) != len(numbers) {
		return numbers, errShape
	}
	for i, part := range parts {
		value, err := parseNumber(part)
		if err != nil {
			return numbers, err
		}
		numbers[i] = value
	}
	return numbers, nil
}

func parseNumber(text string) (int, error) {
	if text == "" {
		return 0, errEmpty
	}
	if len(text) > maxDigits {
		return 0, errLong
	}
	if text[0] == '0' && len(text) > 1 {
		return 0, errZero
	}
	value := 0
	for i := range len(text) {
		if !isDigit(text[i]) {
			return 0, errByte
		}
		value = value*10 + int(text[i]-'0')
	}
	return value, nil
}

func parseMarks(tail string) ([]mark, error) {
	var marks []mark
	for _, text := range strings.Split(tail, ".") {
		m, err := parseMark(text)
		if err != nil {
			return nil, err
		}
		marks = append(marks, m)
	}
	return marks, nil
}

func parseMark(text string) (mark, error) {
	if text == "" {
		return mark{}, errEmpty
	}
	isNumber := true
	for i := range len(text) {
		if !isMarkByte(text[i]) {
			return mark{}, errByte
		}
		isNumber = isNumber && isDigit(text[i])
	}
	if !isNumber {
		return mark{text: text}, nil
	}
	value, err := parseNumber(text)
	if err != nil {
		return mark{}, err
	}
	return mark{text: text, isNumber: true, value: value}, nil
}

func compareVersions(v version, w version) int {
	if order := slices.Compare(v.numbers[:], w.numbers[:]); order != 0 {
		return order
	}
	// Fewer marks are less, but none at all are the greatest.
	if len(v.marks) == 0 || len(w.marks) == 0 {
		return cmp.Compare(len(w.marks), len(v.marks))
	}
	return slices.CompareFunc(v.marks, w.marks, compareMarks)
}

func compareMarks(a mark, b mark) int {
	switch {
	case a.isNumber && b.isNumber:
		return cmp.Compare(a.value, b.value)
	case a.isNumber:
		return -1
	case b.isNumber:
		return 1
	}
	return cmp.Compare(a.text, b.text)
}
