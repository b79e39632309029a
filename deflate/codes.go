package deflate

const (
	endOfBlock   = 256
	firstLength  = 257
	lastLength   = 285
	lastDistance = 29
	mostBits     = 15 // of a code
)

// What a length's code stands for: the least of its lengths, and how many bits more tell which.
var (
	lengthBase = [29]int{3, 4, 5, 6, 7, 8, 9, 10, 11, 13, 15, 17, 19, 23, 27, 31, 35, 43, 51, 59, 67, 83, 99, 115, 131, 163, 195, 227, 258}
	lengthBits = [29]int{0, 0, 0, 0, 0, 0, 0, 0, 1, 1, 1, 1, 2, 2, 2, 2, 3, 3, 3, 3, 4, 4, 4, 4, 5, 5, 5, 5, 0}
)

// What a distance's code stands for.
var (
	distanceBase = [30]int{1, 2, 3, 4, 5, 7, 9, 13, 17, 25, 33, 49, 65, 97, 129, 193, 257, 385, 513, 769, 1025, 1537, 2049, 3073, 4097, 6145, 8193, 12289, 16385, 24577}
	distanceBits = [30]int{0, 0, 0, 0, 1, 1, 2, 2, 3, 3, 4, 4, 5, 5, 6, 6, 7, 7, 8, 8, 9, 9, 10, 10, 11, 11, 12, 12, 13, 13}
)

// order: the lengths of the code for lengths are told for these, one after the other.
var order = [19]int{16, 17, 18, 0, 8, 7, 9, 6, 10, 5, 11, 4, 12, 3, 13, 2, 14, 1, 15}

// code is a set of codes: those of a length follow one another by their symbols, behind the shorter ones.
type code struct {
	counts  [mostBits + 1]int // how many codes have the length
	symbols []int             // of all codes, in their order
}

// codes are those of a block.
type codes struct {
	literals, distances code
}

// makeCode makes the codes of the lengths; 0: the symbol has none.
func makeCode(lengths []int) code {
	var c code
	for _, length := range lengths {
		c.counts[length]++
	}
	c.counts[0] = 0
	var places [mostBits + 2]int
	for length, count := range c.counts {
		places[length+1] = places[length] + count
	}
	c.symbols = make([]int, places[mostBits+1])
	for symbol, length := range lengths {
		if length > 0 {
			c.symbols[places[length]] = symbol
			places[length]++
		}
	}
	return c
}

// complete: each way to go on, bit by bit, leads to one code.
func (c *code) complete() bool {
	sum := 0
	for length, count := range c.counts {
		sum += count << (mostBits - length)
	}
	return sum == 1<<mostBits
}

// lone: there is no code, or one of a single bit.
func (c *code) lone() bool {
	return len(c.symbols) == 0 || len(c.symbols) == 1 && c.counts[1] == 1
}

// symbol takes bits until they are a code.
func (m *machine) symbol(c *code) int {
	var length, bits, first, shorter int

next:
	length++
	if length > mostBits {
		m.fail(errCode)
		return 0
	}
	bits = bits<<1 | m.takeBit()
	first <<= 1
	if bits-first < c.counts[length] {
		return c.symbols[shorter+bits-first]
	}
	first += c.counts[length]
	shorter += c.counts[length]
	goto next
}

// fixedCodes are those of a block that tells none.
func fixedCodes() codes {
	var literals [288]int
	for symbol := range literals {
		switch {
		case symbol < 144:
			literals[symbol] = 8
		case symbol < 256:
			literals[symbol] = 9
		case symbol < 280:
			literals[symbol] = 7
		default:
			literals[symbol] = 8
		}
	}
	var distances [32]int
	for symbol := range distances {
		distances[symbol] = 5
	}
	return codes{literals: makeCode(literals[:]), distances: makeCode(distances[:])}
}

// ownCodes reads the codes that a block tells ahead of what it has.
func (m *machine) ownCodes() codes {
	var own codes
	literals := firstLength + m.take(5)
	distances := 1 + m.take(5)
	if literals > lastLength+1 || distances > lastDistance+1 {
		m.fail(errTooMany)
		return own
	}
	forLengths := m.codeForLengths()
	lengths := m.lengths(&forLengths, literals+distances)
	if m.err != nil {
		return own
	}
	if lengths[endOfBlock] == 0 {
		m.fail(errNoEnd)
	}
	own.literals = makeCode(lengths[:literals])
	own.distances = makeCode(lengths[literals:])
	if !own.literals.complete() || !own.distances.complete() && !own.distances.lone() {
		m.fail(errLengths)
	}
	return own
}

// codeForLengths reads the code in which the other codes' lengths are told.
func (m *machine) codeForLengths() code {
	var lengths [19]int
	for i := range 4 + m.take(4) {
		lengths[order[i]] = m.take(3)
	}
	c := makeCode(lengths[:])
	if !c.complete() {
		m.fail(errLengths)
	}
	return c
}

// lengths reads so many lengths; those of the literals run on into those of the distances.
func (m *machine) lengths(c *code, many int) []int {
	var symbol, length, times int
	lengths := make([]int, 0, many)

next:
	if m.err != nil || len(lengths) == many {
		return lengths
	}
	symbol = m.symbol(c)
	length, times = symbol, 1
	switch symbol {
	case 16:
		goto before
	case 17:
		length, times = 0, 3+m.take(3)
	case 18:
		length, times = 0, 11+m.take(7)
	}
	goto put

before:
	if len(lengths) == 0 {
		m.fail(errRepeat)
		return lengths
	}
	length, times = lengths[len(lengths)-1], 3+m.take(2)

put:
	if times > many-len(lengths) {
		m.fail(errRepeat)
		return lengths
	}
	for range times {
		lengths = append(lengths, length)
	}
	goto next
}
