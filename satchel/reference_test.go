package satchel_test

// A slow reader of deflated texts, made of the document's words alone,
// to hold the program's own against.

type slowReader struct {
	bits  bitText
	at    int
	plain []byte
}

// refusal is what slowReader panics with at a text that is none.
type refusal string

func slowInflate(s string, most int) (plain string, ok bool) {
	defer func() {
		if r := recover(); r != nil {
			if _, is := r.(refusal); !is {
				panic(r)
			}
			plain, ok = "", false
		}
	}()
	r := &slowReader{bits: bitsOf(s)}
	for last := false; !last; {
		last = r.number(1) == 1
		switch r.number(2) {
		case 0:
			r.stored()
		case 1:
			r.block(codesOf(fixedLiterals()), codesOf(fixedDistances()))
		case 2:
			r.block(r.ownCodes())
		default:
			panic(refusal("kind"))
		}
		if len(r.plain) > most {
			panic(refusal("too many bytes"))
		}
	}
	if (r.at+7)/8 != len(s) {
		panic(refusal("bytes behind"))
	}
	for ; r.at < len(r.bits); r.at++ {
		if r.bits[r.at] == '1' {
			panic(refusal("bits behind"))
		}
	}
	return string(r.plain), true
}

func (r *slowReader) number(bits int) int {
	if r.at+bits > len(r.bits) {
		panic(refusal("short"))
	}
	value := 0
	for i := bits - 1; i >= 0; i-- {
		value = 2*value + int(r.bits[r.at+i]-'0')
	}
	r.at += bits
	return value
}

func (r *slowReader) symbol(codes map[int]bitText) int {
	for symbol, code := range codes {
		if r.at+len(code) <= len(r.bits) && r.bits[r.at:r.at+len(code)] == code {
			r.at += len(code)
			return symbol
		}
	}
	panic(refusal("no code"))
}

func (r *slowReader) stored() {
	r.at = (r.at + 7) / 8 * 8
	length, turned := r.number(16), r.number(16)
	if length+turned != 0xffff || length&turned != 0 {
		panic(refusal("lengths"))
	}
	for range length {
		r.plain = append(r.plain, byte(r.number(8)))
	}
}

func (r *slowReader) block(literals map[int]bitText, distances map[int]bitText) {
	for len(r.plain) <= 8000 {
		symbol := r.symbol(literals)
		if symbol < 256 {
			r.plain = append(r.plain, byte(symbol))
			continue
		}
		if symbol == 256 {
			return
		}
		if symbol > 285 {
			panic(refusal("code 286, 287"))
		}
		length := r.length(symbol)
		back := r.distance(r.symbol(distances))
		if back > len(r.plain) {
			panic(refusal("beyond the beginning"))
		}
		for range length {
			r.plain = append(r.plain, r.plain[len(r.plain)-back])
		}
	}
	panic(refusal("too many bytes"))
}

func (r *slowReader) length(symbol int) int {
	if symbol == 285 {
		return 258
	}
	if symbol < 261 {
		return 3 + symbol - 257
	}
	bits := (symbol - 261) / 4
	return 3 + (4+(symbol-257)%4)<<bits + r.number(bits)
}

func (r *slowReader) distance(symbol int) int {
	if symbol > 29 {
		panic(refusal("distance code 30, 31"))
	}
	if symbol < 2 {
		return 1 + symbol
	}
	bits := symbol/2 - 1
	return 1 + (2+symbol%2)<<bits + r.number(bits)
}

// fullness is the sum of 2 to the power of minus length.
func fullness(lengths []int) (sum float64, codes int) {
	for _, l := range lengths {
		if l > 0 {
			sum += 1 / float64(int(1)<<l)
			codes++
		}
	}
	return sum, codes
}

func (r *slowReader) ownCodes() (literals map[int]bitText, distances map[int]bitText) {
	manyLiterals, manyDistances, told := 257+r.number(5), 1+r.number(5), 4+r.number(4)
	if manyLiterals > 286 || manyDistances > 30 {
		panic(refusal("too many codes"))
	}
	forLengths := make([]int, 19)
	for i := range told {
		forLengths[orderTold[i]] = r.number(3)
	}
	if sum, _ := fullness(forLengths); sum != 1 {
		panic(refusal("code for lengths"))
	}
	lengths := r.lengths(codesOf(forLengths), manyLiterals+manyDistances)
	if sum, _ := fullness(lengths[:manyLiterals]); sum != 1 || lengths[256] == 0 {
		panic(refusal("literals"))
	}
	if sum, codes := fullness(lengths[manyLiterals:]); sum != 1 && codes != 0 && (codes != 1 || sum != 0.5) {
		panic(refusal("distances"))
	}
	return codesOf(lengths[:manyLiterals]), codesOf(lengths[manyLiterals:])
}

func (r *slowReader) lengths(codes map[int]bitText, many int) []int {
	var lengths []int
	for len(lengths) < many {
		symbol, times := r.symbol(codes), 1
		switch symbol {
		case 16:
			if len(lengths) == 0 {
				panic(refusal("repeat of nothing"))
			}
			symbol, times = lengths[len(lengths)-1], 3+r.number(2)
		case 17:
			symbol, times = 0, 3+r.number(3)
		case 18:
			symbol, times = 0, 11+r.number(7)
		}
		for range times {
			lengths = append(lengths, symbol)
		}
	}
	if len(lengths) > many {
		panic(refusal("over the end"))
	}
	return lengths
}
