package shell

import (
	"strings"

	"sigil/api"
	"sigil/registry"
)

// session is what one run has.
type session struct {
	store
	registry *registry.Registry
	commands map[string]command
}

func newSession() *session {
	r, _, _ := registry.Open(nil)
	return &session{newStore(), r, commands()}
}

// play does lines, and tells their answers. Once these have too many bytes no further line is done.
func (s *session) play(lines []string) string {
	var out strings.Builder
	full := false
	for _, line := range lines {
		told := ""
		if !full {
			told = s.line(strings.TrimSuffix(line, "\n"))
			full = out.Len()+len(told)+len("\n") > api.MaxLog
		}
		if full {
			told = answer(api.ErrLong)
		}
		out.WriteString(told)
		out.WriteByte('\n')
	}
	return out.String()
}

// line does one line, and tells its answer.
func (s *session) line(text string) string {
	words, e := Words(text)
	if e != api.OK {
		return answer(e)
	}
	if len(words) == 0 {
		return ""
	}
	c, ok := s.commands[words[0]]
	if !ok {
		return answer(api.ErrCommand)
	}
	g, e := c.take(s.store, words[1:])
	if e != api.OK {
		return answer(e)
	}
	return c.do(s, g)
}

// become takes another store in the place of the one that is, if it fits, and tells the words of what was done.
func (s *session) become(next store, words ...string) string {
	if !next.fits() {
		return answer(api.ErrLong)
	}
	s.store = next
	return answer(api.OK, words...)
}

// newTree ends a command that makes a tree.
func (s *session) newTree(name string, m message) string {
	next := s.store
	next.trees = next.trees.with(name, m, weigh(&m.value))
	return s.become(next)
}

// likewise ends a command that makes a tree of another one's schema and type, or was refused by the call behind it.
func (s *session) likewise(name string, m message, v api.Value, e api.Errno) string {
	if e != api.OK {
		return answer(e)
	}
	return s.newTree(name, message{m.schema, m.typ, v})
}

// newBlob ends a command that makes a blob, of which it tells the length and more.
func (s *session) newBlob(name string, b []byte, more ...string) string {
	next := s.store
	next.blobs = next.blobs.with(name, b, len(b))
	return s.become(next, append([]string{number(len(b))}, more...)...)
}

// newEdits ends a command that makes edits, or was refused by the call behind it.
func (s *session) newEdits(name string, l []api.Edit, e api.Errno) string {
	if e != api.OK {
		return answer(e)
	}
	next := s.store
	next.edits = next.edits.with(name, l, weighEdits(l))
	return s.become(next, number(len(l)))
}
