package json

import "strings"

// ending tells the place behind the token that begins at a place of a text; this place, if none does.
type ending func(text string, at int) int

// begins tells what looks for the end of a token, by its first byte.
func begins(c byte) ending {
	switch c {
	case '{', '}', '[', ']', ':', ',':
		return behindSign
	case 't', 'f', 'n':
		return behindWord
	case '-', '0', '1', '2', '3', '4', '5', '6', '7', '8', '9':
		return behindNumber
	case '"':
		return behindString
	}
	return nowhere
}

func nowhere(_ string, at int) int { return at }

func behindSign(_ string, at int) int { return at + 1 }

func behindWord(text string, at int) int {
	for _, word := range [...]string{"true", "false", "null"} {
		if strings.HasPrefix(text[at:], word) {
			return at + len(word)
		}
	}
	return at
}

// behindNumber takes each part that need not be there only if it is there whole.
func behindNumber(text string, at int) int {
	first := at
	if text[at] == '-' {
		first++
	}
	end := behindDigits(text, first)
	switch {
	case end == first:
		return at
	case text[first] == '0':
		end = first + 1
	}
	if oneOf(text, end, ".") {
		end = behindPart(text, end, end+1)
	}
	if oneOf(text, end, "eE") {
		digits := end + 1
		if oneOf(text, digits, "+-") {
			digits++
		}
		end = behindPart(text, end, digits)
	}
	return end
}

// behindPart tells the place behind a part of a number that begins at a place, and whose digits must begin at another one: behind these, or where it begins, if there are none.
func behindPart(text string, at, digits int) int {
	if end := behindDigits(text, digits); end > digits {
		return end
	}
	return at
}

// behindDigits tells the place behind all digits from a place on.
func behindDigits(text string, at int) int {
	for oneOf(text, at, "0123456789") {
		at++
	}
	return at
}

// oneOf says whether one of some bytes stands at a place.
func oneOf(text string, at int, bytes string) bool {
	return at < len(text) && strings.IndexByte(bytes, text[at]) >= 0
}

func behindString(text string, at int) int {
	for i := at + 1; i < len(text) && text[i] >= ' '; i++ {
		switch text[i] {
		case '"':
			return i + 1
		case '\\':
			_, size := escape(text[i:])
			if size == 0 {
				return at
			}
			i += size - 1
		}
	}
	return at
}
