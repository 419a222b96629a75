package json

import (
	"strconv"
	"strings"
	"unicode/utf8"

	"sigil/digest"
)

// What the bytes behind a backslash mean, one below the other.
const (
	letters  = `"\/bfnrt`
	meanings = "\"\\/\b\f\n\r\t"
)

// escape tells the character that an escape in front of a text means, and how many bytes it has: 0, if none stands there.
func escape(s string) (rune, int) {
	if len(s) < 2 {
		return 0, 0
	}
	if i := strings.IndexByte(letters, s[1]); i >= 0 {
		return rune(meanings[i]), 2
	}
	return numbered(s)
}

// numbered does so with an escape by a number, or by the two halves of one.
func numbered(s string) (rune, int) {
	first, ok := half(s)
	switch {
	case !ok || first >= 0xdc00 && first <= 0xdfff:
		return 0, 0
	case first < 0xd800 || first > 0xdbff:
		return first, 6
	}
	second, ok := half(s[6:])
	if !ok || second < 0xdc00 || second > 0xdfff {
		return 0, 0
	}
	return 0x10000 + (first-0xd800)<<10 + (second - 0xdc00), 12
}

// half tells the number of the \u in front of a text, and whether there is one.
func half(s string) (rune, bool) {
	if len(s) < 6 || s[:2] != `\u` {
		return 0, false
	}
	n, err := strconv.ParseUint(s[2:6], 16, 16)
	return rune(n), err == nil
}

// unquoted tells what a string means. It may be a piece of it.
func unquoted(token string) string {
	s := token[1 : len(token)-1]
	var out []byte
	for {
		i := strings.IndexByte(s, '\\')
		switch {
		case i < 0 && out == nil:
			return s
		case i < 0:
			return string(append(out, s...))
		}
		c, size := escape(s[i:])
		out = utf8.AppendRune(append(out, s[:i]...), c)
		s = s[i+size:]
	}
}

// quoted tells the string that means a text.
func quoted(s string) string {
	var out strings.Builder
	out.Grow(len(s) + 2)
	out.WriteByte('"')
	from := 0
	for i := range len(s) {
		if c := s[i]; c < ' ' || c == '"' || c == '\\' {
			out.WriteString(s[from:i])
			putEscape(&out, c)
			from = i + 1
		}
	}
	out.WriteString(s[from:])
	out.WriteByte('"')
	return out.String()
}

// putEscape writes the escape of a byte.
func putEscape(out *strings.Builder, c byte) {
	if i := strings.IndexByte(meanings, c); i >= 0 {
		out.WriteByte('\\')
		out.WriteByte(letters[i])
		return
	}
	out.WriteString(`\u00`)
	out.WriteString(digest.Hex([]byte{c}))
}
