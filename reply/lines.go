package reply

import "strings"

const (
	protocol      = "HTTP/1.1 "
	maxSizeDigits = 6
)

// field is a line of a head: its value has no blanks at its ends.
type field struct {
	name, value string
}

// takeOfLine takes a byte that counts among those of lines.
func (m *machine) takeOfLine() byte {
	c := m.take()
	if m.err != nil {
		return 0
	}
	if m.room == 0 {
		m.broken(errLong)
		return 0
	}
	m.room--
	return c
}

// want takes a text that must stand there.
func (m *machine) want(text string) {
	for i := range len(text) {
		if m.takeOfLine() != text[i] {
			m.broken(errByte)
			return
		}
	}
}

// restOfLine takes what may be any text, and the line's end.
func (m *machine) restOfLine() string {
	var c byte
	var rest []byte

next:
	c = m.takeOfLine()
	if isText(c) {
		rest = append(rest, c)
		goto next
	}
	if c != '\r' {
		m.broken(errByte)
		return ""
	}
	m.want("\n")
	return string(rest)
}

// startLine tells the status.
func (m *machine) startLine() int {
	var c byte
	var status int

	m.want(protocol)
	c = m.takeOfLine()
	if c < '1' || c > '5' {
		goto wrong
	}

digit:
	status = status*10 + int(c-'0')
	if status >= 100 {
		goto words
	}
	c = m.takeOfLine()
	if isDigit(c) {
		goto digit
	}

wrong:
	m.broken(errByte)
	return 0

words:
	m.want(" ")
	m.restOfLine()
	return status
}

// lines takes fields, up to the empty line behind them.
func (m *machine) lines() []field {
	var c byte
	var name []byte
	var fields []field

line:
	name = nil
	c = m.takeOfLine()
	if c == '\r' {
		goto last
	}

nameByte:
	if isNameByte(c) {
		name = append(name, c)
		c = m.takeOfLine()
		goto nameByte
	}
	if c != ':' || len(name) == 0 {
		m.broken(errByte)
		return nil
	}
	fields = append(fields, field{name: string(name), value: strings.Trim(m.restOfLine(), " ")})
	goto line

last:
	m.want("\n")
	return fields
}

// size takes the line ahead of a chunk.
func (m *machine) size() int {
	var c byte
	var size, digits int

digit:
	c = m.takeOfLine()
	if isHexDigit(c) && digits < maxSizeDigits {
		size = size*16 + hexValue(c)
		digits++
		goto digit
	}
	switch {
	case digits > 0 && c == ';':
		m.restOfLine()
	case digits > 0 && c == '\r':
		m.want("\n")
	default:
		m.broken(errByte)
	}
	return size
}

func isText(c byte) bool { return 32 <= c && c <= 126 }

func isDigit(c byte) bool { return '0' <= c && c <= '9' }

func isNameByte(c byte) bool { return isLetter(c) || isDigit(c) || c == '-' }

func isLetter(c byte) bool { return 'a' <= c && c <= 'z' || 'A' <= c && c <= 'Z' }

func isHexDigit(c byte) bool {
	return isDigit(c) || 'a' <= c && c <= 'f' || 'A' <= c && c <= 'F'
}

func hexValue(c byte) int {
	switch {
	case isDigit(c):
		return int(c - '0')
	case c >= 'a':
		return int(c-'a') + 10
	}
	return int(c-'A') + 10
}
