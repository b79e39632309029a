package info

const maxDigits = 9

// value has a text only if it is a string: no other is asked for.
type value struct {
	isString bool
	text     string
}

// reader goes through an object.
// Behind its first fault it sees the byte 0, which can stand nowhere: so it comes to its end.
type reader struct {
	text string
	at   int
	err  error
}

func readObject(text string) (map[string]value, error) {
	r := reader{text: text}
	fields := r.object()
	if r.err != nil {
		return nil, r.err
	}
	return fields, nil
}

func (r *reader) fail(err error) {
	if r.err == nil {
		r.err = err
	}
}

// see tells the byte that is next.
func (r *reader) see() byte {
	if r.err != nil || r.at == len(r.text) {
		return 0
	}
	return r.text[r.at]
}

// refuse fails at the byte that is next.
func (r *reader) refuse() {
	if r.at == len(r.text) {
		r.fail(errEnd)
		return
	}
	r.fail(errByte)
}

func (r *reader) want(c byte) {
	if r.see() != c {
		r.refuse()
		return
	}
	r.at++
}

func (r *reader) blanks() {
	for isBlank(r.see()) {
		r.at++
	}
}

// mark takes a byte that must stand there, and the blanks about it.
func (r *reader) mark(c byte) {
	r.blanks()
	r.want(c)
	r.blanks()
}

func (r *reader) object() map[string]value {
	fields := map[string]value{}
	r.mark('{')
	if r.see() != '}' {
		r.field(fields)
	}
	for r.see() == ',' {
		r.mark(',')
		r.field(fields)
	}
	r.mark('}')
	if r.at < len(r.text) {
		r.refuse()
	}
	return fields
}

// field takes a field, and the blanks behind it.
func (r *reader) field(fields map[string]value) {
	name := r.quoted()
	r.mark(':')
	v := r.value()
	r.blanks()
	if _, twice := fields[name]; twice {
		r.fail(errTwice)
	}
	fields[name] = v
}

func (r *reader) value() value {
	switch r.see() {
	case '"':
		return value{isString: true, text: r.quoted()}
	case 't':
		r.word("true")
	case 'f':
		r.word("false")
	case 'n':
		r.word("null")
	default:
		r.number()
	}
	return value{}
}

func (r *reader) word(word string) {
	for i := range len(word) {
		r.want(word[i])
	}
}

func (r *reader) number() {
	if r.see() == '-' {
		r.at++
	}
	begin := r.at
	for isDigit(r.see()) {
		r.at++
	}
	digits := r.at - begin
	if digits == 0 {
		r.refuse()
		return
	}
	if digits > maxDigits || digits > 1 && r.text[begin] == '0' {
		r.fail(errNumber)
	}
}

// quoted takes a string, and tells what it means.
func (r *reader) quoted() string {
	var meant []byte
	r.want('"')
	for isPlain(r.see()) || r.see() == '\\' {
		meant = append(meant, r.character())
	}
	r.want('"')
	return string(meant)
}

func (r *reader) character() byte {
	c := r.see()
	r.at++
	if c != '\\' {
		return c
	}
	c = escaped(r.see())
	if c == 0 {
		r.refuse()
		return 0
	}
	r.at++
	return c
}

// escaped tells what the byte means behind a backslash; 0: nothing.
func escaped(c byte) byte {
	switch c {
	case '"', '\\', '/':
		return c
	case 'n':
		return '\n'
	case 't':
		return '\t'
	}
	return 0
}

func isPlain(c byte) bool { return 32 <= c && c <= 126 && c != '"' && c != '\\' }

func isBlank(c byte) bool { return c == ' ' || c == '\t' || c == '\n' || c == '\r' }

func isDigit(c byte) bool { return '0' <= c && c <= '9' }
