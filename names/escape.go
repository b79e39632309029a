package names

import (
	"strings"

	"satchel/fault"
)

// How far the small letters stand behind the capital ones.
const capitalToSmall = 'a' - 'A'

// Escape replaces each capital letter by "!" and the small one.
func Escape(s string) (string, error) {
	if strings.Contains(s, "!") {
		return "", fault.Of(ErrName, errByte)
	}
	return Escaped(s), nil
}

// Escaped is Escape of a text without "!", such as a name or a version.
func Escaped(s string) string {
	var out strings.Builder
	for i := range len(s) {
		c := s[i]
		if isCapital(c) {
			out.WriteByte('!')
			c += capitalToSmall
		}
		out.WriteByte(c)
	}
	return out.String()
}

// Unescape tells the text that Escape makes s of.
func Unescape(s string) (string, error) {
	var out strings.Builder
	for i := 0; i < len(s); i++ {
		c := s[i]
		if isCapital(c) {
			return "", fault.Of(ErrName, errEscape)
		}
		if c == '!' {
			i++
			if i == len(s) || !isSmall(s[i]) {
				return "", fault.Of(ErrName, errEscape)
			}
			c = s[i] - capitalToSmall
		}
		out.WriteByte(c)
	}
	return out.String(), nil
}
