package satchel_test

import (
	"math/rand"
	"strings"
	"testing"

	"satchel/api"
	"satchel/satchel"
)

func checkInflate(t *testing.T, what string, s string, want string) {
	t.Helper()
	if got, e := satchel.Inflate(s, api.MaxPlain); got != want || e != api.OK {
		t.Errorf("P4: Inflate of %s (%.60q) = %.60q, %d, want %.60q", what, s, got, e, want)
	}
}

func checkNotInflated(t *testing.T, what string, s string) {
	t.Helper()
	if got, e := satchel.Inflate(s, api.MaxPlain); got != "" || e != api.ErrDeflate {
		t.Errorf("P1, P4: Inflate of %s (%.60q) = %.60q, %d, want ErrDeflate", what, s, got, e)
	}
}

// checkAsReference holds what Inflate answers against what the slow reader does.
func checkAsReference(t *testing.T, s string, most int) {
	t.Helper()
	want, ok := slowInflate(s, most)
	wantErr := api.OK
	if !ok {
		wantErr = api.ErrDeflate
	}
	if got, e := satchel.Inflate(s, most); got != want || e != wantErr {
		t.Errorf("P4: Inflate(%q, %d) = %.60q, %d, want %.60q, %d", s, most, got, e, want, wantErr)
	}
}

// fixed are symbols in fixed codes, in a last block that is not ended.
func fixed(symbols ...int) bitText {
	codes := codesOf(fixedLiterals())
	block := "1" + number(1, 2)
	for _, symbol := range symbols {
		block += codes[symbol]
	}
	return block
}

// far is a distance's symbol in fixed codes.
func far(symbol int) bitText { return codesOf(fixedDistances())[symbol] }

func storedBlock(last int, s string) string {
	return string([]byte{byte(last), byte(len(s)), byte(len(s) >> 8), ^byte(len(s)), ^byte(len(s) >> 8)}) + s
}

// noise is bytes that do not repeat soon.
func noise(length int) string {
	b := make([]byte, length)
	rand.New(rand.NewSource(int64(length))).Read(b)
	return string(b)
}

func TestInflateStored(t *testing.T) {
	checkInflate(t, "a stored block", "\x01\x03\x00\xfc\xffabc", "abc")
	checkInflate(t, "an empty stored block", storedBlock(1, ""), "")
	checkInflate(t, "two stored blocks", storedBlock(0, "ab")+storedBlock(1, "c"), "abc")
	checkInflate(t, "a great stored block", storedBlock(1, noise(8000)), noise(8000))
	for c := 1; c < 256; c += 8 {
		// The bits between a stored block's kind and its length are not behind the end.
		checkInflate(t, "a stored block behind other bits", string([]byte{byte(c)})+storedBlock(1, "abc")[1:], "abc")
	}
	for at := 1; at < 5; at++ {
		for bit := range 8 {
			b := []byte(storedBlock(1, "abc"))
			b[at] ^= 1 << bit
			checkNotInflated(t, "a stored block of two lengths", string(b))
		}
	}
	checkNotInflated(t, "a stored block that is cut", storedBlock(1, "abc")[:7])
	checkNotInflated(t, "a stored block that is not the last", storedBlock(0, "abc"))
	checkNotInflated(t, "a byte behind a stored block", storedBlock(1, "abc")+"\x00")
	checkNotInflated(t, "a stored block of 65535 bytes", storedBlock(1, noise(65535)))
	checkNotInflated(t, "a block of kind 3", "\x07\x00\x00\x00\x00")
	checkNotInflated(t, "nothing", "")
}

func TestInflateFixedLiterals(t *testing.T) {
	for c := range 256 {
		checkInflate(t, "a literal", (fixed(c) + fixed(256)[3:]).text(), string([]byte{byte(c)}))
	}
	for _, symbol := range []int{286, 287} {
		for d := range 32 {
			checkNotInflated(t, "code 286 or 287", (fixed(97, symbol) + far(d) + number(0, 13) + fixed(256)[3:]).text())
		}
		checkNotInflated(t, "code 286 or 287", fixed(97, symbol, 256).text())
	}
	checkNotInflated(t, "a block without an end", fixed(97).text())
}

// eachRepeat calls f with each length's symbol, number behind it, and length.
func eachRepeat(f func(symbol bitText, length int)) {
	codes := codesOf(fixedLiterals())
	length := 3
	for symbol := 257; symbol < 285; symbol++ {
		bits := max(0, (symbol-261)/4)
		for more := range 1 << bits {
			f(codes[symbol]+number(more, bits), length)
			length++
		}
	}
	f(codes[285], 258)
}

// eachDistance calls f with each distance's symbol and number behind it, least and greatest.
func eachDistance(f func(symbol bitText, distance int)) {
	next := 1
	for symbol := range 30 {
		bits := max(0, symbol/2-1)
		f(far(symbol)+number(0, bits), next)
		next += 1 << bits
		f(far(symbol)+number(1<<bits-1, bits), next-1)
	}
}

func TestInflateEveryLength(t *testing.T) {
	end := fixed(0xff, 256)[3:]
	seen := map[int]bool{}
	eachRepeat(func(symbol bitText, length int) {
		seen[length] = true
		checkInflate(t, "a repeat of one byte", (fixed('a') + symbol + far(0) + end).text(), strings.Repeat("a", 1+length)+"\xff")
		checkInflate(t, "a repeat of three bytes", (fixed('a', 'b', 'c') + symbol + far(2) + end).text(), strings.Repeat("abc", 100)[:3+length]+"\xff")
	})
	if len(seen) != 256 {
		t.Errorf("%d lengths, want 3 to 258", len(seen))
	}
}

func TestInflateDistances(t *testing.T) {
	length3 := codesOf(fixedLiterals())[257]
	// A literal behind it tells whether just the distance's bits were taken.
	end := fixed(0xff, 256)[3:]
	eachDistance(func(symbol bitText, distance int) {
		// So many bytes ahead as the distance goes back, and one byte fewer.
		for ahead := max(0, distance-1); ahead <= distance; ahead++ {
			s := noise(ahead)
			block := storedBlock(0, s) + (fixed() + length3 + symbol + end).text()
			if ahead+3+1 > 8000 || ahead < distance {
				checkNotInflated(t, "a distance too far", block)
				continue
			}
			checkInflate(t, "a distance to the beginning", block, s+(s + s + s)[:3]+"\xff")
		}
	})
	for _, symbol := range []int{30, 31} {
		checkNotInflated(t, "distance code 30 or 31", storedBlock(0, noise(7000))+(fixed()+length3+far(symbol)+number(0, 14)+end).text())
	}
	checkNotInflated(t, "a repeat of nothing", (fixed() + length3 + far(0) + end).text())
}

func TestInflateEnd(t *testing.T) {
	whole := fixed('a', 256)
	for ; len(whole)%8 != 0; whole += "0" {
		behind := whole + "1"
		checkNotInflated(t, "a bit behind the end", behind.text())
	}
	checkInflate(t, "bits 0 behind the end", whole.text(), "a")
	checkNotInflated(t, "a byte behind the end", whole.text()+"\x00")
	checkNotInflated(t, "a byte behind the end", whole.text()+"\x01")
	// Codes of 9 bits: each more moves the end by a bit.
	for many := range 8 {
		var symbols []int
		for range many {
			symbols = append(symbols, 200)
		}
		b := fixed(append(symbols, 256)...)
		checkInflate(t, "an end at any bit", b.text(), strings.Repeat("\xc8", many))
		checkNotInflated(t, "a byte more", b.text()+"\x00")
		checkNotInflated(t, "a byte fewer", b.text()[:len(b.text())-1])
	}
}

// two are lengths of literal codes: for a and the end.
func two() []int { return lengthsAt(257, map[int]int{'a': 1, 256: 1}) }

// repeating are lengths of literal codes, and the codes: for a, the end, and the lengths 3 and 4.
func repeating() ([]int, map[int]bitText) {
	lengths := lengthsAt(259, map[int]int{'a': 2, 256: 2, 257: 2, 258: 2})
	return lengths, codesOf(lengths)
}

func TestInflateOwnLiterals(t *testing.T) {
	none := []int{0}
	checkInflate(t, "two codes", ownBlock(two(), none, "0", "0", "1").text(), "aa")
	checkInflate(t, "no literal", ownBlock(lengthsAt(258, map[int]int{256: 1, 257: 1}), none, "0").text(), "")
	for what, lengths := range map[string][]int{
		"an end alone":               lengthsAt(257, map[int]int{256: 1}),
		"an end alone, of two bits":  lengthsAt(257, map[int]int{256: 2}),
		"literals with a gap":        lengthsAt(257, map[int]int{'a': 1, 256: 2}),
		"literals with a small gap":  lengthsAt(257, map[int]int{'a': 1, 'b': 2, 'c': 3, 256: 4}),
		"one literal too many":       lengthsAt(257, map[int]int{'a': 1, 'b': 1, 256: 1}),
		"one long literal too many":  lengthsAt(257, map[int]int{'a': 1, 'b': 15, 256: 1}),
		"literals without an end":    lengthsAt(257, map[int]int{'a': 1, 'b': 1}),
		"no literals":                lengthsAt(257, nil),
		"lengths without an end":     lengthsAt(286, map[int]int{'a': 1, 285: 1}),
		"very many that are too few": lengthsAt(286, map[int]int{'a': 15, 'b': 15, 256: 15}),
	} {
		for _, behind := range []bitText{"0", "1", "00", "01", "10", "11", "000000000000000000", "010101010101010101", "111111111111111111"} {
			checkNotInflated(t, what, ownBlock(lengths, none, behind).text())
		}
	}
}

func TestInflateLongCodes(t *testing.T) {
	some := map[int]int{256: 15, 'o': 15}
	for i := range 14 {
		some['a'+i] = i + 1
	}
	lengths := lengthsAt(257, some)
	codes := codesOf(lengths)
	block := ownBlock(lengths, []int{0})
	for c := 'a'; c <= 'o'; c++ {
		block += codes[int(c)]
	}
	block += codes[256]
	if codes[256] != "111111111111111" {
		t.Fatalf("the end's code is %s", codes[256])
	}
	checkInflate(t, "codes of 1 to 15 bits", block.text(), "abcdefghijklmno")
}

func TestInflateOwnDistances(t *testing.T) {
	literals, codes := repeating()
	begin := codes['a'] + codes[257]
	checkInflate(t, "one distance", ownBlock(literals, []int{1}, begin, "0", codes[256]).text(), "aaaa")
	checkInflate(t, "one distance, another", ownBlock(literals, []int{0, 0, 1}, codes['a'], codes['a'], begin, "0", codes[256]).text(), "aaaaaa")
	checkInflate(t, "no distance, none used", ownBlock(literals, []int{0, 0}, codes['a'], codes[256]).text(), "a")
	checkInflate(t, "two distances", ownBlock(literals, []int{1, 1}, codes['a'], begin, "1", codes[256]).text(), "aaaaa")
	checkInflate(t, "three distances", ownBlock(literals, []int{1, 2, 2}, codes['a'], begin, "10", codes[256]).text(), "aaaaa")
	checkInflate(t, "30 distances", ownBlock(literals, append(make([]int, 28), 1, 1), codes['a'], codes[256]).text(), "a")
	checkNotInflated(t, "one distance, its other bit", ownBlock(literals, []int{1}, begin, "1", codes[256]).text())
	checkNotInflated(t, "one distance, its other bit", ownBlock(literals, []int{1}, begin, "1111111111111111", codes[256]).text())
	checkNotInflated(t, "one distance, its other bit", ownBlock(literals, []int{1}, begin, "1000000000000000", codes[256]).text())
	for _, bits := range []bitText{"0", "1", "000000000000000", "111111111111111"} {
		checkNotInflated(t, "no distance, but one used", ownBlock(literals, []int{0}, begin, bits, codes[256]).text())
	}
	for what, lengths := range map[string][]int{
		"one distance of two bits":    {2},
		"one distance of 15 bits":     {15},
		"distances with a gap":        {1, 2},
		"two distances of two bits":   {2, 2},
		"three distances of one bit":  {1, 1, 1},
		"one distance too many":       {1, 2, 2, 15},
		"distances with a small gap":  {1, 2, 3, 4},
		"one distance of two, behind": {0, 0, 2},
	} {
		checkNotInflated(t, what, ownBlock(literals, lengths, codes['a'], codes[256]).text())
		checkNotInflated(t, what, ownBlock(literals, lengths, begin, "0", codes[256]).text())
		checkNotInflated(t, what, ownBlock(literals, lengths, begin, "00", codes[256]).text())
	}
}

func TestInflateHowManyCodes(t *testing.T) {
	for literals := 257; literals <= 288; literals++ {
		for distances := 1; distances <= 32; distances++ {
			told := singly(append(lengthsAt(literals, map[int]int{'a': 1, 256: 1}), make([]int, distances)...)...)
			block := (ownHead(literals, distances, allLengths(), told) + "0" + "1").text()
			if literals <= 286 && distances <= 30 {
				checkInflate(t, "so many codes", block, "a")
			} else {
				checkNotInflated(t, "too many codes", block)
			}
		}
	}
}

func TestInflateCodeForLengths(t *testing.T) {
	told := []toldLength{{18, 97 - 11}, {1, 0}, {18, 127}, {18, 20 - 11}, {1, 0}, {0, 0}}
	if _, ok := lengthsOf(told, 257+1); !ok {
		t.Fatal("not so many lengths")
	}
	full := lengthsAt(19, map[int]int{0: 2, 1: 1, 18: 2})
	checkInflate(t, "a code for lengths of three", (ownHead(257, 1, full, told) + "0" + "1").text(), "a")
	for what, lengths := range map[string][]int{
		"a code for lengths with a gap":        lengthsAt(19, map[int]int{0: 2, 1: 2, 18: 2}),
		"a code for lengths with a small gap":  lengthsAt(19, map[int]int{0: 2, 1: 1, 18: 3}),
		"a code for lengths too full":          lengthsAt(19, map[int]int{0: 1, 1: 1, 18: 2}),
		"a code for lengths a little too full": lengthsAt(19, map[int]int{0: 2, 1: 1, 18: 2, 15: 7}),
		"no code for lengths":                  lengthsAt(19, nil),
		"one code for lengths":                 lengthsAt(19, map[int]int{1: 1}),
	} {
		checkNotInflated(t, what, (ownHead(257, 1, lengths, told) + "0" + "1").text())
		checkNotInflated(t, what, (ownHead(257, 1, lengths, nil) + bitText(strings.Repeat("0", 300))).text())
		checkNotInflated(t, what, (ownHead(257, 1, lengths, nil) + bitText(strings.Repeat("1", 3000))).text())
	}
}

// lengthsOf are the lengths that are told; ok: no repeat of nothing, and just so many.
func lengthsOf(told []toldLength, many int) (lengths []int, ok bool) {
	for _, l := range told {
		switch {
		case l.symbol < 16:
			lengths = append(lengths, l.symbol)
		case l.symbol == 16 && len(lengths) == 0:
			return nil, false
		case l.symbol == 16:
			for range 3 + l.more {
				lengths = append(lengths, lengths[len(lengths)-1])
			}
		default:
			lengths = append(lengths, make([]int, map[int]int{17: 3, 18: 11}[l.symbol]+l.more)...)
		}
	}
	return lengths, len(lengths) == many
}

func checkTold(t *testing.T, what string, literals int, distances int, told []toldLength, behind bitText, want string) {
	t.Helper()
	if _, ok := lengthsOf(told, literals+distances); !ok {
		t.Fatalf("%s: not so many lengths", what)
	}
	checkInflate(t, what, (ownHead(literals, distances, allLengths(), told) + behind).text(), want)
}

func TestInflateRepeatedLengths(t *testing.T) {
	zeros := func(many int) []toldLength {
		var told []toldLength
		for ; many >= 138+11; many -= 138 {
			told = append(told, toldLength{18, 127})
		}
		return append(told, toldLength{18, many - 11})
	}
	join := func(parts ...[]toldLength) (told []toldLength) {
		for _, p := range parts {
			told = append(told, p...)
		}
		return told
	}
	a := join(zeros(97), singly(1), zeros(158))
	checkTold(t, "each told singly", 257, 1, join(a, singly(1, 0)), "01", "a")
	checkTold(t, "a repeat of 0 to the end", 257, 4, join(a, singly(1), []toldLength{{17, 1}}), "01", "a")
	checkTold(t, "a long repeat of 0 to the end", 257, 11, join(a, singly(1), []toldLength{{18, 0}}), "01", "a")
	checkTold(t, "the least repeat of 0", 257, 3, join(a, singly(1), []toldLength{{17, 0}}), "01", "a")
	checkTold(t, "the greatest short repeat of 0", 257, 10, join(a, singly(1), []toldLength{{17, 7}}), "01", "a")
	checkTold(t, "a repeat of the length before, from literals into distances, to the end", 258, 4,
		join(zeros(97), singly(2, 2), zeros(157), singly(2), []toldLength{{16, 2}}), "00"+"11"+"00"+"10", "aaaa")
	checkTold(t, "a repeat of a repeated 0", 257, 1, join([]toldLength{{17, 0}, {16, 3}}, zeros(88), singly(1), zeros(158), singly(1, 0)), "01", "a")
	checkTold(t, "a repeat of a 0 told", 257, 1, join(singly(0), []toldLength{{16, 0}}, zeros(93), singly(1), zeros(158), singly(1, 0)), "01", "a")
	checkTold(t, "a repeat of 0 from literals into distances", 260, 7, join(zeros(97), singly(1), zeros(158), singly(1), []toldLength{{17, 7}}), "01", "a")

	for what, told := range map[string][]toldLength{
		"a repeat ahead of all":              join([]toldLength{{16, 0}}, zeros(94), singly(1), zeros(158), singly(1, 0)),
		"a repeat of 0 over the end":         join(a, singly(1), []toldLength{{17, 0}}),
		"a long repeat of 0 over the end":    join(a, singly(1), []toldLength{{18, 0}}),
		"a repeat over the end":              join(a, singly(1), []toldLength{{16, 0}}),
		"a long repeat of 0 far beyond":      join(a, singly(1), []toldLength{{18, 127}}),
		"a repeat of 0 over the end by many": join(zeros(97), singly(1), zeros(150), []toldLength{{18, 127}}),
	} {
		checkNotInflated(t, what, (ownHead(257, 1, allLengths(), told) + "01" + "0000000000").text())
	}
	for distances := 1; distances <= 3; distances++ {
		checkNotInflated(t, "a repeat over the end by some", (ownHead(257, distances, allLengths(), join(a, singly(1), []toldLength{{17, 1}})) + "01").text())
	}
}

func TestInflateManyBlocks(t *testing.T) {
	literals, codes := repeating()
	own := string(ownBlock(literals, []int{1, 1}, codes['a'], codes[257], "0", codes[256]))
	fixedOne := string(fixed('b', 257) + far(1) + codesOf(fixedLiterals())[256])
	// All but the last: the first bit is 0.
	all := bitText("0" + own[1:] + "0" + fixedOne[1:] + "0" + own[1:] + "1" + fixedOne[1:])
	checkInflate(t, "blocks of both kinds", all.text(), "aaaa"+"baba"+"aaaa"+"baba")
	text := storedBlock(0, "xyz") + (bitText("0"+fixedOne[1:]) + "1" + "00").text() + storedBlock(1, "end")[1:]
	checkInflate(t, "stored blocks around a fixed one", text, "xyz"+"bzbz"+"end")
}

func TestInflateMost(t *testing.T) {
	texts := map[string]string{
		"stored":  storedBlock(1, strings.Repeat("ab", 50)),
		"packed":  libraryDeflate(strings.Repeat("ab", 50), 9),
		"huffman": libraryDeflate(strings.Repeat("ab", 50), -2),
		"literal": libraryDeflate(noise(100), -2),
	}
	for what, s := range texts {
		for most := range 200 {
			got, e := satchel.Inflate(s, most)
			if most < 100 && (got != "" || e != api.ErrDeflate) || most >= 100 && (len(got) != 100 || e != api.OK) {
				t.Errorf("P4: Inflate of 100 bytes, %s, at most %d: %d bytes, %d", what, most, len(got), e)
			}
		}
	}
	if got, e := satchel.Inflate("\x03\x00", 0); got != "" || e != api.OK {
		t.Errorf("P4: Inflate of nothing, at most 0: %q, %d", got, e)
	}
	full := libraryDeflate(strings.Repeat("a", 8000), 9)
	if got, e := satchel.Inflate(full, 8000); len(got) != 8000 || e != api.OK {
		t.Errorf("P4: Inflate of 8000 bytes: %d, %d", len(got), e)
	}
	checkNotInflated(t, "8001 bytes", libraryDeflate(strings.Repeat("a", 8001), 9))
	for _, most := range []int{-1, -2, 8001, 8002, 1<<63 - 1, -1 << 63, 1 << 32, -1 << 32} {
		for _, s := range []string{"\x03\x00", "", full} {
			if got, e := satchel.Inflate(s, most); got != "" || e != api.ErrArg {
				t.Errorf("P1, P4: Inflate(.., %d) = %q, %d, want ErrArg", most, got, e)
			}
		}
	}
}

func TestInflateAllShortTexts(t *testing.T) {
	for a := range 256 {
		checkAsReference(t, string([]byte{byte(a)}), 8000)
		for b := range 256 {
			checkAsReference(t, string([]byte{byte(a), byte(b)}), 8000)
		}
	}
}

func TestInflateAnyTexts(t *testing.T) {
	source := rand.New(rand.NewSource(2))
	for range 20000 {
		b := make([]byte, source.Intn(12))
		source.Read(b)
		if len(b) > 0 && source.Intn(2) == 0 {
			b[0] = b[0]&^7 | 3 // fixed codes, more often than not refused late
		}
		checkAsReference(t, string(b), 8000)
	}
}

// TestInflateTurnedTexts: right texts with some bits turned reach far into a machine before they are wrong.
func TestInflateTurnedTexts(t *testing.T) {
	source := rand.New(rand.NewSource(3))
	for range 300 {
		b := make([]byte, source.Intn(60))
		for i := range b {
			b[i] = byte(source.Intn(1 + source.Intn(20)))
		}
		right := libraryDeflate(string(b), []int{1, 6, 9, -2}[source.Intn(4)])
		if source.Intn(2) == 0 {
			right = anyOwnBlock(source)
		}
		checkAsReference(t, right, 8000)
		for range 30 {
			turned := []byte(right)
			for range 1 + source.Intn(3) {
				turned[source.Intn(len(turned))] ^= 1 << source.Intn(8)
			}
			checkAsReference(t, string(turned), 8000)
		}
	}
}

// anyLengths are lengths of a complete set of codes, of so many symbols at most.
func anyLengths(source *rand.Rand, many int, must int) []int {
	leaves := []int{0}
	for range 1 + source.Intn(12) {
		i := source.Intn(len(leaves))
		if leaves[i] < 15 && len(leaves) < many {
			leaves[i]++
			leaves = append(leaves, leaves[i])
		}
	}
	lengths := make([]int, many)
	at := must
	for _, l := range leaves {
		for lengths[at] != 0 {
			at = source.Intn(many)
		}
		lengths[at] = l
	}
	return lengths
}

func anyOwnBlock(source *rand.Rand) string {
	literals := anyLengths(source, 257+source.Intn(30), 256)
	distances := anyLengths(source, 2+source.Intn(29), 0)
	block := ownBlock(literals, distances)
	for range source.Intn(100) {
		block += number(source.Intn(2), 1)
	}
	return (block + codesOf(literals)[256]).text()
}

func TestInflateLongTexts(t *testing.T) {
	for _, s := range longTexts() {
		if got, e := satchel.Inflate(s, 8000); e != api.ErrDeflate || got != "" {
			t.Errorf("P1, P4: Inflate(%.40q..) = %.40q, %d, want ErrDeflate", s, got, e)
		}
	}
	const many = 300000
	stored := strings.Repeat(storedBlock(0, ""), many)
	checkInflate(t, "very many stored blocks of nothing", stored+storedBlock(1, ""), "")
	checkNotInflated(t, "very many stored blocks and no last", stored)
	empty := "0" + fixed(256)[1:]
	eight := empty + empty + empty + empty
	checkInflate(t, "very many fixed blocks of nothing", strings.Repeat(eight.text(), many)+"\x03\x00", "")
	checkNotInflated(t, "very many fixed blocks and no last", strings.Repeat(eight.text(), many))
}

func TestInflateAnswersNewMemory(t *testing.T) {
	s := storedBlock(1, noise(100))
	if got, _ := satchel.Inflate(s, 100); shares(s, got) {
		t.Error("P2: an answer shares memory with what was handed in")
	}
}
