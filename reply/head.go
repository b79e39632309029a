package reply

import (
	"errors"
	"strings"

	"satchel/api"
	"satchel/fault"
)

// Why a head is wrong.
var (
	errTwice   = errors.New("a field that is there twice")
	errNumber  = errors.New("not 1 to 9 digits")
	errCoding  = errors.New("not chunked")
	errSpan    = errors.New("no range of bytes")
	errBoth    = errors.New("a length, and chunks")
	errNoRange = errors.New("a part of nothing")
)

const maxDigits = 9

// head is what a reply's head says: 0 and empty, until it is complete and right.
type head struct {
	status int

	hasLength bool
	length    int

	chunked bool

	hasTag bool
	tag    string

	hasRange bool
	span     span
}

// span is the bytes from first to last, of total ones.
type span struct {
	first, last, total int
}

func (s span) length() int { return s.last - s.first + 1 }

func (h *head) hasBody() bool { return h.status == whole || h.status == part }

// readHead takes the head; a wrong one is broken only at its end.
func (m *machine) readHead() {
	m.room = api.MaxHead
	status := m.startLine()
	fields := m.lines()
	if m.err != nil {
		return
	}
	h, err := understand(status, fields, m.limit)
	if err != nil {
		m.broken(fault.Of(errHead, err))
		return
	}
	m.head = h
}

func understand(status int, fields []field, limit int) (head, error) {
	h := head{status: status}
	for _, f := range fields {
		if err := h.note(f); err != nil {
			return head{}, err
		}
	}
	if err := h.check(limit); err != nil {
		return head{}, err
	}
	return h, nil
}

// note takes up a field that has a meaning.
func (h *head) note(f field) error {
	var err error
	var there *bool
	switch strings.ToLower(f.name) {
	case "content-length":
		there = &h.hasLength
		h.length, err = parseNumber(f.value)
	case "transfer-encoding":
		there = &h.chunked
		err = checkCoding(f.value)
	case "etag":
		there = &h.hasTag
		h.tag = f.value
	case "content-range":
		there = &h.hasRange
		h.span, err = parseSpan(f.value)
	default:
		return nil
	}
	if *there {
		return errTwice
	}
	*there = true
	return err
}

// check holds the fields against each other, the status and the limit.
func (h *head) check(limit int) error {
	switch {
	case h.hasLength && h.chunked:
		return errBoth
	case h.status == part && !h.hasRange:
		return errNoRange
	case h.hasBody() && (h.length > limit || h.span.total > limit):
		return errLimit
	}
	return nil
}

func checkCoding(value string) error {
	if strings.ToLower(value) != "chunked" {
		return errCoding
	}
	return nil
}

// parseSpan takes "bytes A-B/T" apart.
func parseSpan(value string) (span, error) {
	numbers, found := strings.CutPrefix(value, "bytes ")
	if !found {
		return span{}, errSpan
	}
	bounds, total, _ := strings.Cut(numbers, "/")
	first, last, _ := strings.Cut(bounds, "-")
	var values [3]int
	for i, text := range []string{first, last, total} {
		value, err := parseNumber(text)
		if err != nil {
			return span{}, fault.Of(errSpan, err)
		}
		values[i] = value
	}
	s := span{first: values[0], last: values[1], total: values[2]}
	if s.first > s.last || s.last >= s.total {
		return span{}, errSpan
	}
	return s, nil
}

// parseNumber takes digits; here a 0 may stand ahead of others.
func parseNumber(text string) (int, error) {
	if text == "" || len(text) > maxDigits {
		return 0, errNumber
	}
	value := 0
	for i := range len(text) {
		if !isDigit(text[i]) {
			return 0, errNumber
		}
		value = value*10 + int(text[i]-'0')
	}
	return value, nil
}
