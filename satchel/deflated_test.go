package satchel_test

import (
	"bytes"
	"compress/flate"
	"strings"
)

// A bitText is bits as 0 and 1, in the order in which a deflated text has them.
type bitText string

// number is a number of so many bits, the lowest first.
func number(value int, bits int) bitText {
	text := make([]byte, bits)
	for i := range text {
		text[i] = '0' + byte(value>>i&1)
	}
	return bitText(text)
}

func bitsOf(s string) bitText {
	var text strings.Builder
	for i := range len(s) {
		text.WriteString(string(number(int(s[i]), 8)))
	}
	return bitText(text.String())
}

// text fills the last byte up with 0.
func (b bitText) text() string {
	out := make([]byte, (len(b)+7)/8)
	for i := range len(b) {
		out[i/8] |= (b[i] - '0') << (i % 8)
	}
	return string(out)
}

// codesOf are the codes of lengths, as RFC 1951 deals them out, by symbols; nil if there is no room for one.
func codesOf(lengths []int) map[int]bitText {
	codes := map[int]bitText{}
	next := 0
	for length := 1; length <= 15; length++ {
		next <<= 1
		for symbol, l := range lengths {
			if l != length {
				continue
			}
			if next>>length != 0 {
				return nil
			}
			code := []byte(number(next, length))
			for i, k := 0, length-1; i < k; i, k = i+1, k-1 {
				code[i], code[k] = code[k], code[i]
			}
			codes[symbol] = bitText(code)
			next++
		}
	}
	return codes
}

// fixedLiterals and fixedDistances are the lengths of fixed codes.
func fixedLiterals() []int {
	var lengths []int
	for _, run := range [][2]int{{144, 8}, {112, 9}, {24, 7}, {8, 8}} {
		for range run[0] {
			lengths = append(lengths, run[1])
		}
	}
	return lengths
}

func fixedDistances() []int {
	lengths := make([]int, 32)
	for i := range lengths {
		lengths[i] = 5
	}
	return lengths
}

// orderTold is the order in which the lengths of the code for lengths are told.
var orderTold = []int{16, 17, 18, 0, 8, 7, 9, 6, 10, 5, 11, 4, 12, 3, 13, 2, 14, 1, 15}

// allLengths are lengths for a code for lengths that has all 19 symbols.
func allLengths() []int {
	lengths := make([]int, 19)
	for i := range lengths {
		lengths[i] = 4
		if i >= 13 {
			lengths[i] = 5
		}
	}
	return lengths
}

// A toldLength is a symbol of the code for lengths, and the number behind it.
type toldLength struct{ symbol, more int }

// singly tells lengths one by one.
func singly(lengths ...int) []toldLength {
	var told []toldLength
	for _, l := range lengths {
		told = append(told, toldLength{symbol: l})
	}
	return told
}

// ownHead is the head of a last block with codes of its own.
func ownHead(literals int, distances int, forLengths []int, told []toldLength) bitText {
	head := "1" + number(2, 2) + number(literals-257, 5) + number(distances-1, 5) + number(15, 4)
	for _, symbol := range orderTold {
		head += number(forLengths[symbol], 3)
	}
	codes := codesOf(forLengths)
	for _, l := range told {
		head += codes[l.symbol]
		switch l.symbol {
		case 16:
			head += number(l.more, 2)
		case 17:
			head += number(l.more, 3)
		case 18:
			head += number(l.more, 7)
		}
	}
	return head
}

// ownBlock is a last block with codes of these lengths, and these bits behind its head.
func ownBlock(literals []int, distances []int, behind ...bitText) bitText {
	block := ownHead(len(literals), len(distances), allLengths(), singly(append(append([]int{}, literals...), distances...)...))
	for _, b := range behind {
		block += b
	}
	return block
}

// lengthsAt are many lengths, 0 but for some symbols'.
func lengthsAt(many int, some map[int]int) []int {
	lengths := make([]int, many)
	for symbol, length := range some {
		lengths[symbol] = length
	}
	return lengths
}

// libraryDeflate packs by Go's library.
func libraryDeflate(s string, level int) string {
	var packed bytes.Buffer
	w, err := flate.NewWriter(&packed, level)
	if err != nil {
		panic(err)
	}
	w.Write([]byte(s))
	w.Close()
	return packed.String()
}
