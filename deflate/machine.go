package deflate

// machine reads a deflated text bit by bit.
// What it takes behind its first fault is 0 or means nothing: its states ask for the fault ahead of going on.
type machine struct {
	text  string
	at    int // the byte that is read
	bit   int // how many of its bits have been taken
	plain []byte
	most  int
	err   error
}

func (m *machine) fail(err error) {
	if m.err == nil {
		m.err = err
	}
}

// takeBit takes a byte's lowest bit first.
func (m *machine) takeBit() int {
	if m.at == len(m.text) {
		m.fail(errShort)
		return 0
	}
	bit := int(m.text[m.at]) >> m.bit & 1
	m.bit++
	if m.bit == 8 {
		m.toNextByte()
	}
	return bit
}

// take takes a number, its lowest bit first.
func (m *machine) take(bits int) int {
	value := 0
	for i := range bits {
		value |= m.takeBit() << i
	}
	return value
}

func (m *machine) toNextByte() {
	m.at++
	m.bit = 0
}

func (m *machine) put(c byte) {
	if len(m.plain) == m.most {
		m.fail(errLong)
		return
	}
	m.plain = append(m.plain, c)
}

// run goes through the blocks; each label is a state.
func (m *machine) run() {
	var last int
	var fixed, own codes

block:
	last = m.take(1)
	switch m.take(2) {
	case 0:
		goto storedBlock
	case 1:
		goto fixedBlock
	case 2:
		goto ownBlock
	}
	m.fail(errKind)
	return

storedBlock:
	m.stored()
	goto behind

fixedBlock:
	// Made once: a text may have very many such blocks.
	if fixed.literals.symbols == nil {
		fixed = fixedCodes()
	}
	m.packed(&fixed)
	goto behind

ownBlock:
	own = m.ownCodes()
	m.packed(&own)

behind:
	if m.err != nil {
		return
	}
	if last == 0 {
		goto block
	}
	m.end()
}

// stored passes on a block's bytes as they are.
func (m *machine) stored() {
	var left int

	if m.bit > 0 {
		m.toNextByte()
	}
	left = m.take(16)
	if left^m.take(16) != 0xffff {
		m.fail(errStored)
	}

next:
	if left == 0 || m.err != nil {
		return
	}
	m.put(byte(m.take(8)))
	left--
	goto next
}

// packed reads a block of codes, up to the code for its end.
func (m *machine) packed(c *codes) {
	var symbol, length, distance int

next:
	if m.err != nil {
		return
	}
	symbol = m.symbol(&c.literals)
	switch {
	case symbol < endOfBlock:
		goto literal
	case symbol == endOfBlock:
		return
	case symbol <= lastLength:
		goto again
	}
	m.fail(errCode)
	return

literal:
	m.put(byte(symbol))
	goto next

again:
	symbol -= firstLength
	length = lengthBase[symbol] + m.take(lengthBits[symbol])
	symbol = m.symbol(&c.distances)
	if symbol > lastDistance {
		m.fail(errCode)
		return
	}
	distance = distanceBase[symbol] + m.take(distanceBits[symbol])
	m.repeat(length, distance)
	goto next
}

// repeat puts bytes that have come so far back; some of them it may have put itself.
func (m *machine) repeat(length int, distance int) {
	if distance > len(m.plain) {
		m.fail(errDistance)
	}
	for range length {
		if m.err != nil {
			return
		}
		m.put(m.plain[len(m.plain)-distance])
	}
}

// end looks at what is behind the last block: no byte, and no bit but 0.
func (m *machine) end() {
	if m.bit > 0 {
		if m.text[m.at]>>m.bit != 0 {
			m.fail(errBehind)
		}
		m.toNextByte()
	}
	if m.at < len(m.text) {
		m.fail(errBehind)
	}
}
