package shell

import (
	"strconv"
	"strings"
)

const digits = "0123456789abcdef"

// behindBlanks is a line without the blanks in front of it.
func behindBlanks(line string) string { return strings.TrimLeftFunc(line, blank) }

// begins says whether a line begins with what may be a word, not with its end or a comment.
func begins(line string) bool { return line != "" && line[0] != '#' }

// blank says whether a character stands between words.
func blank(c rune) bool { return c == ' ' || c == '\t' }

// control says whether a character stands in no word (a blank neither, but that it ends a bare one).
func control(c rune) bool { return c < ' ' || c == 0x7f }

// taken takes the word in front of a line off it.
func taken(line string) (word, behind string, ok bool) {
	if line[0] == '"' {
		return quotedWord(line[1:])
	}
	return bareWord(line)
}

// bareWord takes off a line the bare word in front of it.
func bareWord(line string) (word, behind string, ok bool) {
	end := len(line)
letters:
	for i, c := range line {
		switch {
		case blank(c):
			end = i
			break letters
		case control(c) || c == '"' || c == '\\':
			return "", "", false
		}
	}
	return strings.Clone(line[:end]), line[end:], true
}

// quotedWord takes off a line what is left of a quoted word, behind its first quote.
func quotedWord(line string) (word, behind string, ok bool) {
	var out strings.Builder
	from := 0 // where that begins which is not in the word yet
	end := -1
letters:
	for i, c := range line {
		switch {
		case i < from:
			// It belongs to an escape.
		case c == '"':
			end = i
			break letters
		case c == '\\':
			b, n := escape(line[i:])
			if n == 0 {
				return "", "", false
			}
			out.WriteString(line[from:i])
			out.WriteByte(b)
			from = i + n
		case control(c):
			return "", "", false
		}
	}
	if end < 0 {
		return "", "", false
	}
	out.WriteString(line[from:end])
	behind = line[end+1:]
	return out.String(), behind, behind == "" || blank(rune(behind[0]))
}

// escape tells the byte for which the escape in front of a text stands, and how long that is; 0: there is none.
func escape(text string) (byte, int) {
	if len(text) < 2 {
		return 0, 0
	}
	switch text[1] {
	case '\\', '"':
		return text[1], 2
	case 'n':
		return '\n', 2
	case 't':
		return '\t', 2
	case 'x':
		return hexEscape(text)
	}
	return 0, 0
}

// hexEscape is escape of what begins as one with two digits.
func hexEscape(text string) (byte, int) {
	const size = len(`\x00`)
	if len(text) < size {
		return 0, 0
	}
	b, bad := strconv.ParseUint(text[2:size], 16, 8)
	if bad != nil {
		return 0, 0
	}
	return byte(b), size
}
