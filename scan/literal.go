package scan

import (
	"strconv"

	"sigil/wire"
)

// unquote reads the string that stands in front: the bytes that it stands for, and how many bytes it has itself, 0 if none stands there.
func unquote(s string) ([]byte, int) {
	if s == "" || classOf(s[0]) != quote {
		return nil, 0
	}
	var b []byte
	for at := 1; at < len(s); {
		if s[at] == s[0] {
			return b, at + 1
		}
		c, n := piece(s[at:])
		if n == 0 {
			break
		}
		b = append(b, c)
		at += n
	}
	return nil, 0
}

// piece reads the piece of a string that stands in front, and is not its end: the byte that it stands for, and how many bytes it has, 0 if it is none.
func piece(s string) (byte, int) {
	switch s[0] {
	case 0, '\n':
		return 0, 0
	case '\\':
		return escape(s)
	}
	return s[0], 1
}

// escape does so for the piece that a backslash begins.
func escape(s string) (byte, int) {
	if len(s) < 2 {
		return 0, 0
	}
	switch c := s[1]; c {
	case 'a':
		return 7, 2
	case 'b':
		return 8, 2
	case 'f':
		return 12, 2
	case 'n':
		return 10, 2
	case 'r':
		return 13, 2
	case 't':
		return 9, 2
	case 'v':
		return 11, 2
	case '\\', '\'', '"':
		return c, 2
	case 'x', 'X':
		return byBase(s, 2, 2, 16)
	default:
		return byBase(s, 1, 3, 8)
	}
}

// byBase reads an escape whose digits begin at from, as many as there are, up to most.
func byBase(s string, from, most, base int) (byte, int) {
	end := from
	for end < min(len(s), from+most) && isDigit(s[end], base) {
		end++
	}
	v, err := strconv.ParseUint(s[from:end], base, 8)
	if err != nil {
		return 0, 0
	}
	return byte(v), end
}

// isDigit says whether a byte is a digit, of base 8 or 16.
func isDigit(c byte, base int) bool {
	if base == 8 {
		return c >= '0' && c <= '7'
	}
	return c >= '0' && c <= '9' || c >= 'a' && c <= 'f' || c >= 'A' && c <= 'F'
}

// plain tells how many bytes in front stand for themselves inside double quotes, 0 if the first one needs an escape.
func plain(s string) int {
	switch c := s[0]; {
	case c >= 128:
		return character(s)
	case c < 32 || c == 127 || c == '"' || c == '\\':
		return 0
	}
	return 1
}

// character tells how many bytes the character has whose first byte, from 128 on, stands in front, 0 if none stands there.
func character(s string) int {
	for n := 2; n <= 4 && n <= len(s); n++ {
		// The first that is UTF-8 whole is one character, as one byte from 128 on is none.
		if wire.Utf8(s[:n]) < 0 {
			return n
		}
	}
	return 0
}

// putEscape writes the escape that stands for a byte.
func putEscape(b []byte, c byte) []byte {
	switch c {
	case '\\', '"':
		return append(b, '\\', c)
	case '\n':
		return append(b, `\n`...)
	case '\r':
		return append(b, `\r`...)
	case '\t':
		return append(b, `\t`...)
	}
	return append(b, '\\', '0'+c>>6, '0'+c>>3&7, '0'+c&7)
}
