package scan

import (
	"strconv"
	"strings"

	"sigil/api"
)

// class is what a byte may begin.
type class int

const (
	none class = iota
	blank
	letter
	digit
	quote
	sign
	slash
	classes // how many there are
)

const signs = "{}[]()<>;,=.-"

// classOf tells the class of a byte.
func classOf(c byte) class {
	switch {
	case c >= 9 && c <= 13 || c == ' ':
		return blank
	case c >= 'A' && c <= 'Z' || c >= 'a' && c <= 'z' || c == '_':
		return letter
	case c >= '0' && c <= '9':
		return digit
	case c == '\'' || c == '"':
		return quote
	case strings.IndexByte(signs, c) >= 0:
		return sign
	case c == '/':
		return slash
	}
	return none
}

// scanner goes over a text that is UTF-8 and not too long.
type scanner struct {
	text   string
	at     int // up to here it is read; where it ends with an error, the place of the fault
	tokens []api.Token
}

// step goes on behind what begins at the scanner's place, or tells what is wrong there.
type step func(s *scanner) api.Errno

// steps makes the table of what is done at a byte, by its class.
func steps() [classes]step {
	return [classes]step{
		none: func(s *scanner) api.Errno { return s.take(0, 0, api.ErrChar) },
		blank: func(s *scanner) api.Errno {
			s.at++
			return api.OK
		},
		letter: func(s *scanner) api.Errno { return s.take(api.TokIdent, row(s.rest()), api.OK) },
		digit: func(s *scanner) api.Errno {
			n := row(s.rest())
			_, e := worth(s.rest()[:n])
			return s.take(api.TokNumber, n, e)
		},
		quote: func(s *scanner) api.Errno {
			_, n := unquote(s.rest())
			if n == 0 {
				return s.take(0, 0, api.ErrString)
			}
			return s.take(api.TokString, n, api.OK)
		},
		sign:  func(s *scanner) api.Errno { return s.take(api.TokSign, 1, api.OK) },
		slash: (*scanner).comment,
	}
}

// run reads the whole text, up to its first fault.
func (s *scanner) run() (e api.Errno) {
	table := steps()
text:
	for {
		if s.at == len(s.text) {
			s.tokens = append(s.tokens, api.Token{Kind: api.TokEnd, At: s.at})
			break text
		}
		if e = table[classOf(s.text[s.at])](s); e != api.OK {
			break text
		}
	}
	return e
}

// rest is what is not read yet.
func (s *scanner) rest() string { return s.text[s.at:] }

// take adds the token of the next n bytes, if e says that nothing is wrong with it. Whether there is room for one more comes ahead of that.
func (s *scanner) take(kind, n int, e api.Errno) api.Errno {
	if len(s.tokens) == api.MaxTokens-1 {
		return api.ErrTokens
	}
	if e != api.OK {
		return e
	}
	s.tokens = append(s.tokens, api.Token{Kind: kind, At: s.at, Text: s.rest()[:n]})
	s.at += n
	return api.OK
}

// comment passes over the comment that begins with this slash.
func (s *scanner) comment() api.Errno {
	rest := s.rest()
	switch {
	case strings.HasPrefix(rest, "//"):
		n := strings.IndexByte(rest, '\n')
		if n < 0 {
			n = len(rest)
		}
		s.at += n
	case strings.HasPrefix(rest, "/*"):
		n := strings.Index(rest[2:], "*/")
		if n < 0 {
			return api.ErrComment
		}
		s.at += n + 4
	default:
		return s.take(0, 0, api.ErrChar)
	}
	return api.OK
}

// row tells how many letters and digits stand in front.
func row(s string) int {
	for i := range len(s) {
		if c := classOf(s[i]); c != letter && c != digit {
			return i
		}
	}
	return len(s)
}

// worth tells what a number is worth.
func worth(s string) (int, api.Errno) {
	base := 10
	switch {
	case strings.HasPrefix(s, "0x") || strings.HasPrefix(s, "0X"):
		s, base = s[2:], 16
	case strings.HasPrefix(s, "0"):
		base = 8 // of a 0 alone too: it is the same in any base
	}
	v, err := strconv.ParseUint(s, base, 63)
	if err != nil {
		return 0, api.ErrDigits
	}
	return int(v), api.OK
}
