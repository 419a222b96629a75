package path

import (
	"strings"

	"sigil/api"
	"sigil/scan"
)

// part is a part of a path's text: a word, or what stands inside brackets.
type part struct {
	text   string
	inside bool
}

// split takes the text of a path to parts; false: it is no such text.
func split(text string) ([]part, bool) {
	if text == "" {
		return nil, true
	}
	var parts []part
	// With a dot ahead the first word is as the others.
	for rest := "." + text; rest != ""; {
		p, n := front(rest)
		if n == 0 {
			return nil, false
		}
		parts = append(parts, p)
		rest = rest[n:]
	}
	return parts, true
}

// front tells the part that stands in front, and how many bytes it has with its dot or brackets: 0 if none stands there.
func front(rest string) (part, int) {
	behind := rest[1:]
	switch rest[0] {
	case '.':
		word := upTo(behind, ".[")
		if scan.Ident(word) {
			return part{text: word}, 1 + len(word)
		}
	case '[':
		in := inside(behind)
		if in != "" && strings.HasPrefix(behind[len(in):], "]") {
			return part{text: in, inside: true}, len(in) + 2
		}
	}
	return part{}, 0
}

// upTo is what stands ahead of the first of some bytes, all if none of them stands there.
func upTo(text, some string) string {
	if i := strings.IndexAny(text, some); i >= 0 {
		return text[:i]
	}
	return text
}

// inside tells the inside that stands in front, nothing if none does.
func inside(text string) string {
	if strings.HasPrefix(text, `"`) {
		in := quoted(text)
		if _, e := scan.Unquote(in); e != api.OK {
			return ""
		}
		return in
	}
	in := upTo(text, "]")
	if in == "true" || in == "false" || isNumber(in) {
		return in
	}
	return ""
}

// quoted is what stands in front, from its double quote up to the next one that no escape has; all if there is none.
func quoted(text string) string {
	for i := 1; i < len(text); i++ {
		switch text[i] {
		case '\\':
			i++
		case '"':
			return text[:i+1]
		}
	}
	return text
}

// isNumber says whether a text is a number as insides have it, however large.
func isNumber(text string) bool {
	digits := strings.TrimPrefix(text, "-")
	if digits == "" || digits[0] == '0' {
		return text == "0"
	}
	return strings.Trim(digits, "0123456789") == ""
}
