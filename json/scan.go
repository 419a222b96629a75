package json

import (
	"sigil/api"
	"sigil/wire"
)

// checked tells the first fault of a text. The tokens ahead of it are told one by one.
func checked(text string, tell func(token string)) api.Fault {
	if len(text) > api.MaxJson {
		return api.Fault{Err: api.ErrLong}
	}
	if at := wire.Utf8(text); at >= 0 {
		return api.Fault{Err: api.ErrJsonText, At: at}
	}
	s := &scanner{text: text, tell: tell}
	return caught(func() {
		s.value()
		s.end()
	})
}

// pass does nothing with a token.
func pass(string) {}

// scanner takes tokens off a text, from the left.
type scanner struct {
	text string
	at   int                // where the next token is looked for
	tell func(token string) // is told each of them
	open int                // how many objects and arrays it is in
}

// peek passes over blanks, and tells the byte that is behind them. Where the text ends that is 0, which begins no token.
func (s *scanner) peek() byte {
	for ; s.at < len(s.text); s.at++ {
		switch c := s.text[s.at]; c {
		case ' ', '\t', '\n', '\r':
		default:
			return c
		}
	}
	return 0
}

// token takes off the token that may stand here, whatever it is.
func (s *scanner) token() string {
	c := s.peek()
	end := begins(c)(s.text, s.at)
	switch {
	case end > s.at:
	case c == '"':
		refuse(s.at, api.ErrJsonText)
	default:
		refuse(s.at, api.ErrJson)
	}
	token := s.text[s.at:end]
	s.tell(token)
	s.at = end
	return token
}

// must takes off a token that begins with a byte, the only one that may stand here.
func (s *scanner) must(c byte) string {
	if s.peek() != c {
		refuse(s.at, api.ErrJson)
	}
	return s.token()
}

// value goes over a value.
func (s *scanner) value() {
	switch s.peek() {
	case '{':
		s.row('{', '}', s.member)
	case '[':
		s.row('[', ']', s.value)
	case '}', ']', ':', ',':
		refuse(s.at, api.ErrJson)
	default:
		s.token()
	}
}

// member goes over a member of an object.
func (s *scanner) member() {
	s.must('"')
	s.must(':')
	s.value()
}

// row goes over an object or an array that begins here: its signs, and what is between them with commas, each by a call.
func (s *scanner) row(from, to byte, each func()) {
	if s.open == api.MaxNest {
		refuse(s.at, api.ErrDepth)
	}
	s.open++
	s.must(from)
	for more := s.peek() != to; more; more = s.comma() {
		each()
	}
	s.must(to)
	s.open--
}

// comma takes off a comma, and says whether there is one.
func (s *scanner) comma() bool {
	if s.peek() != ',' {
		return false
	}
	s.token()
	return true
}

// end refuses whatever is behind the last token.
func (s *scanner) end() {
	s.peek()
	if s.at < len(s.text) {
		refuse(s.at, api.ErrJson)
	}
}
