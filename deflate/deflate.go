// Package deflate: what a deflated text (RFC 1951, and the document's own rules beside it) gives.
package deflate

import (
	"errors"

	"satchel/api"
	"satchel/fault"
)

// ErrDeflate is what a text is refused as.
var ErrDeflate = errors.New("no deflated text")

// Why it is refused.
var (
	errMost     = errors.New("not a number of bytes that may come")
	errShort    = errors.New("the text ends ahead of its last block's end")
	errBehind   = errors.New("something behind the last block")
	errKind     = errors.New("no kind of block")
	errStored   = errors.New("a stored block's length and its complement do not go together")
	errTooMany  = errors.New("more codes than there may be")
	errLengths  = errors.New("lengths that make up no set of codes")
	errNoEnd    = errors.New("no code for the end of a block")
	errRepeat   = errors.New("a repeat of nothing, or over the end")
	errCode     = errors.New("bits that are no code, or a code that may not be used")
	errDistance = errors.New("a distance beyond the beginning")
	errLong     = errors.New("more bytes than may come")
)

// Inflate tells what the text gives, if that is at most so many bytes.
func Inflate(s string, most int) (string, error) {
	if most < 0 || most > api.MaxPlain {
		return "", fault.Of(fault.ErrArg, errMost)
	}
	m := machine{text: s, most: most}
	m.run()
	if m.err != nil {
		return "", fault.Of(ErrDeflate, m.err)
	}
	return string(m.plain), nil
}
